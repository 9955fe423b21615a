import PyProof.Rows.All
import Wide.All
import OpenK.AllK
import Wide.FinOn
import KE.KExcInit
import KE.KExcIs
import HandS.ForExc
import HandS.ExcInit
import HandS.IsInst
import HandS.ExcValue
import HandS.ForMost
import HandS.EndBits
import HandS.Conv
import HandS.Evl
import PySem.Challenge.RW_holdhouse_k01_limits_and_errors
import PyProof.ReprLen
set_option Elab.async false
set_option maxRecDepth 100000
set_option maxHeartbeats 4000000
/-! An own exception class whose __init__ stores its parameters, called with positional values or by keywords. -/
namespace XC
open PySem PySem.W PySem.Calls
section
variable {prog : Program} {w : World} {A : Around} {E : Value → Shared → Prop} {R : Result → Shared → Prop}
  {h : Heap} {g : Array GenState} {d : Drawn} {t : Nat} {os : OsState} {nm q : Str} {C N : Addr}
  {bs bm bmB : List Value} {hdct : Bool} {sn : List Str} {sub : List Value} {ab : Bool} {col : Option Bool}
  {dd : Option Addr} {k0 k1 k2 k3 k5 : Option Value} {B newId initId : String} {rest : List Value}
  {kw : List (Str × Value)}

theorem newChecked (F : ExcBaseFacts B newId initId bmB)
    (hT : ∀ X : String, bm.contains (.type X) = bmB.contains (.type X)) {Q : Unit → Shared → Prop}
    (hC : h.get? C = some (excClassObj nm q C N bs bm hdct sn sub ab col dd k0 k1 k2 k3 k5 newId))
    (hq : Q () ⟨h, g, d, t, os⟩) :
    wpAny (model prog w) A (checkBuiltinCall newId ⟨.ref C :: rest, kw⟩) Q E ⟨h, g, d, t, os⟩ := by
  have inB : (Value.ref C :: bm).contains (.type B) = true := by
    rw [List.contains_cons, hT, F.hasB, Bool.or_true]
  have hns := F.noStar
  simp only [checkBuiltinCall, F.newKind, F.newSplit, F.newRow]
  repeat (first
    | refine wpAny_loadPart_at hC ?_
    | (refine wpAny_isSubtype_exc hC ?_; rw [inB])
    | refine wpAny_staticBase_exc hC ?_
    | refine wpAny_madeBy_exc hC ?_
    | simp only [bne_self_eq_false, Bool.false_eq_true, if_false]
    | wp_step)
  exact hq

theorem newMade (F : ExcBaseFacts B newId initId bmB)
    (hT : ∀ X : String, bm.contains (.type X) = bmB.contains (.type X))
    (hC : h.get? C = some (excClassObj nm q C N bs bm hdct sn sub ab col dd k0 k1 k2 k3 k5 newId))
    (hq : R (.ok (.ret (.ref (h.objs.size + 1))))
      ⟨(h.push (kdv_tup rest)).push (HandSPX.excO C h.objs.size), g, d, t, os⟩)
    (hrest : rest.length ≤ sizeLine) :
    codeAny (model prog w) A (.builtin newId ⟨.ref C :: rest, kw⟩) R ⟨h, g, d, t, os⟩ := by
  have hends := F.ends
  have inB : (Value.ref C :: bm).contains (.type B) = true := by
    rw [List.contains_cons, hT, F.hasB, Bool.or_true]
  have noA : (Value.ref C :: bm).contains (.type "AttributeError") = false := by
    rw [List.contains_cons, hT, F.noAttr]
    rfl
  have noN : (Value.ref C :: bm).contains (.type "NameError") = false := by
    rw [List.contains_cons, hT, F.noName]
    rfl
  refine codeAny_builtinAt F.entry ?_
  unfold Builtin.«BaseException.__new__»
  refine PySem.wpAt_bind ?_
  show wpAt _ _ _ (stack >>= _) _ _ _
  refine PySem.wpAt_bind (PySem.wpAt_stack fun p below => PySem.wpAt_of_wpAny ?_)
  wp_walk
  refine PySem.wpAt_of_wpAny ?_
  rw [F.owner]
  repeat (first
    | with_reducible refine wpAny_madeHere_exc F.canon hC ?_
    | with_reducible refine wpAny_loadPart_at hC ?_
    | (with_reducible refine wpAny_isSubtype_exc hC ?_; first | rw [inB] | rw [noA] | rw [noN])
    | wp_step)
  show R _ _
  rw [Heap.size_push]
  exact hq

theorem typeCalled (F : ExcBaseFacts B newId initId bmB)
    (hT : ∀ X : String, bm.contains (.type X) = bmB.contains (.type X)) {fI : Addr} {Q : Fin → Shared → Prop}
    (hC : h.get? C = some (excClassObj nm q C N bs bm hdct sn sub ab col dd k0 k1 k2 k3 k5 newId))
    (hi : Looks (model prog w) h (typeLookup (.ref C) "__init__") (some (.ref fI)))
    (hb : ∀ self, Looks (model prog w) h (bindSpecial (.ref fI) self) (.ref fI, [self]))
    (hrest : rest.length ≤ sizeLine)
    (hq : codeAny (model prog w) A (.call (.ref fI) ⟨.ref (h.objs.size + 1) :: rest, kw⟩)
      (fun r s' => match r with
        | .ok (.ret v) => v = .none ∧ Q (.done (.ret (.ref (h.objs.size + 1)))) s'
        | .ok _ => False
        | .error e => E e s')
      ⟨(h.push (kdv_tup rest)).push (HandSPX.excO C h.objs.size), g, d, t, os⟩) :
    wpAny (model prog w) A (Builtin.«type.__call__» ⟨.ref C :: rest, kw⟩) Q E ⟨h, g, d, t, os⟩ := by
  repeat (first
    | with_reducible refine wpAny_loadPart_at hC ?_
    | with_reducible refine wpAny_madeBy_exc hC ?_
    | wp_step)
  refine codeAny_call_builtin_code (Code.quiet_builtin _ F.quiet) (newChecked F hT hC ?_)
  refine newMade F hT hC ?_ hrest
  show wpAny _ _ _ _ _ _
  have k : ∀ b o, h.get? b = some o →
      ((h.push (kdv_tup rest)).push (HandSPX.excO C h.objs.size)).get? b = some o :=
    fun b o e => Heap.get?_push_of_some _ (Heap.get?_push_of_some _ e)
  have hC2 := k _ _ hC
  have there : ((h.push (kdv_tup rest)).push (HandSPX.excO C h.objs.size)).get? (h.objs.size + 1) =
      some (HandSPX.excO C h.objs.size) := by heap_get
  have selfIn : (Value.ref C :: bm).contains (.ref C) = true := by simp
  have i1 := hi.keeps k
  have b1 := (hb (.ref (h.objs.size + 1))).keeps k
  unfold isInstance
  repeat (first
    | with_reducible refine wpAny_loadPart_at there ?_
    | (with_reducible refine wpAny_isSubtype_exc hC2 ?_; rw [selfIn])
    | wp_step)
  show wpAny _ _ (typeLookup (.ref C) _) _ _ _
  refine i1.at ?_
  refine wpAny_holding (wpAny_bind (b1.at ?_))
  refine wpAny_bind (wpAny_call (codeAny_mono hq fun r s' z => ?_))
  rcases r with e | (v | _ | _ | _) <;> first | exact z | exact z.elim | skip
  obtain ⟨rfl, z⟩ := z
  first
    | exact wpAny_pure (wpAny_pure z)
    | (wp_walk; exact z)

theorem typeChecked {M : Model} {Q : Unit → Shared → Prop}
    (hC : h.get? C = some (excClassObj nm q C N bs bm hdct sn sub ab col dd k0 k1 k2 k3 k5 newId))
    (hq : Q () ⟨h, g, d, t, os⟩) :
    wpAny M A (checkBuiltinCall "type.__call__" ⟨.ref C :: rest, kw⟩) Q E ⟨h, g, d, t, os⟩ := by
  have f3 := tc_sub
  have hty : (⟨h, g, d, t, os⟩ : Shared).TypeIs (.ref C) "type" := ⟨_, hC, rfl⟩
  simp only [checkBuiltinCall, tc_kind, tc_split]
  repeat (any_goals (first
    | assumption
    | with_reducible refine wpAny_loadPart_at hC ?_
    | with_reducible refine wpAny_onRaise ?_
    | with_reducible refine wpAny_map ?_
    | wp_step))

theorem called (F : ExcBaseFacts B newId initId bmB)
    (hT : ∀ X : String, bm.contains (.type X) = bmB.contains (.type X)) {fI : Addr}
    (hC : h.get? C = some (excClassObj nm q C N bs bm hdct sn sub ab col dd k0 k1 k2 k3 k5 newId))
    (hi : Looks (model prog w) h (typeLookup (.ref C) "__init__") (some (.ref fI)))
    (hb : ∀ self, Looks (model prog w) h (bindSpecial (.ref fI) self) (.ref fI, [self]))
    (hrest : rest.length ≤ sizeLine)
    (hq : codeAny (model prog w) (A.under (.builtin "type.__call__" ⟨.ref C :: rest, kw⟩))
      (.call (.ref fI) ⟨.ref (h.objs.size + 1) :: rest, kw⟩) (InitBack (h.objs.size + 1) R)
      ⟨(h.push (kdv_tup rest)).push (HandSPX.excO C h.objs.size), g, d, t, os⟩) :
    codeAny (model prog w) A (.call (.ref C) ⟨rest, kw⟩) R ⟨h, g, d, t, os⟩ := by
  have f1 := tc_lookup
  have f2 := tc_bind (.ref C)
  have hty : (⟨h, g, d, t, os⟩ : Shared).TypeIs (.ref C) "type" := ⟨_, hC, rfl⟩
  refine codeAny_of_tree ?_
  show wpAny _ _ (callAny (.ref C) _) _ _ _
  repeat (any_goals (first
    | assumption
    | with_reducible refine wpAny_loadPart_at hC ?_
    | wp_step))
  refine ⟨rfl, ?_⟩
  refine codeAny_call_builtin_at (Code.quiet_builtin _ (by decide +kernel)) entry_typeCall
    (typeChecked hC (typeCalled F hT hC hi hb hrest ?_))
  refine codeAny_mono hq fun r s' z => ?_
  rcases r with e | (v | _ | _ | _) <;> exact z
end
end XC

set_option Elab.async false
set_option maxRecDepth 100000
set_option maxHeartbeats 4000000
namespace XC
open PySem PySem.W PySem.Calls PyProof.Rows
open Builtin.ObjectAttr
/-- what the written part says of an own exception class at C, over the built-in class B -/
structure EC (K : Frag) (C : Addr) (B newId initId : String) (bmB : List Value) : Prop where
  base : ExcBaseFacts B newId initId bmB
  store : StoreFacts B bmB "object.__setattr__" "object"
  ini : excInitIn K C bmB newId = true
  over : excOver K C bmB = true
  sa : findIn K (.ref C) "__setattr__" = some (some (.builtin "object.__setattr__"))
  ga : findIn K (.ref C) "__getattribute__" = some (some (.builtin "BaseException.__getattribute__"))
  gg : findIn K (.ref C) "__getattr__" = some none
  kC : keepIn K (.ref C) = true
  exC : subIn K (.ref C) (.type "BaseException") = some true
  hd : hasDictIn K C = true
section
variable {prog : Program} {w : World} {A : Around} {E : Value → Shared → Prop} {R : Result → Shared → Prop}
  {K : Frag} {C : Addr} {B newId initId : String} {bmB : List Value} {s : Shared}
  {hp : Heap} {g : Array GenState} {d : Drawn} {t : Nat} {os : OsState}

/-- the first field of an exception without a dict -/
theorem storeNew (T : EC K C B newId initId bmB) {name : Str} {tk : Tok} {v : Value} {x : Addr} {fv : Array Value}
    (X : K.In hp) (hx : hp.get? x = some { cls := .ref C, data := .fields fv })
    (ha : findIn K (.ref C) name = some none)
    (hq : ∀ h' tk' dx, (∀ b o, b ≠ x → hp.get? b = some o → h'.get? b = some o) → hp.objs.size ≤ dx → dx ≠ x →
      h'.get? x = some { cls := .ref C, dict := some dx, data := .fields fv } →
      h'.Ns1 dx (fun y => if y = name then some v else none) → R (.ok (.ret .none)) ⟨h', g, d, tk', os⟩) :
    codeAny (model prog w) A (.call (.builtin "object.__setattr__") ⟨[.ref x, .str name tk, v], []⟩) R ⟨hp, g, d, t, os⟩ := by
  have I : InstAt hp x { cls := .ref C, data := .fields fv } C none := ⟨hx, rfl, rfl, trivial⟩
  have hxs : x ≠ hp.objs.size := Nat.ne_of_lt (Heap.lt_size hx)
  obtain ⟨cd, hcd, hh⟩ := any_some T.hd
  have hcls : Looks (model prog w) hp (classData C) cd := looks_clsIn X hcd
  refine osa_openX (r := none) T.store X I T.over (by unfold takerIn; rw [ha]; rfl) fun b => ?_
  show wpAny _ _ (storeInOwnDict (.ref x) (.ref C) (.str name tk) name v b) _ _ _
  obtain ⟨nm, bs, mro, ns, qn, hd, sn, sb, ab, col, del⟩ := cd
  dsimp only at hh
  subst hh
  unfold storeInOwnDict ownDictForStores
  repeat (first
    | with_reducible refine HandSPX.store_in_new ?_ ?_
    | with_reducible refine wpAny_loadPart_at hx ?_
    | with_reducible refine hcls.at ?_
    | wp_step)
  · exact ⟨_, #[], _, (Heap.get?_update_ne _ _ _ _ hxs.symm).trans (Heap.get?_push_at rfl rfl), rfl,
      fun e he => absurd he (by simp), fun _ => rfl⟩
  · intro h' tk' hn' hs
    have hx1 : (hp.push { cls := .type "dict", data := .dict #[] }).get? x = some { cls := .ref C, data := .fields fv } :=
      Heap.get?_push_of_some _ hx
    refine hq h' tk' hp.objs.size (fun b o hb ho => ?_) (Nat.le_refl _) hxs.symm ?_ hn'
    · refine (hs.2 b (Nat.ne_of_lt (Heap.lt_size ho))).trans ?_
      exact (Heap.get?_update_ne _ _ _ _ hb).trans (Heap.get?_push_of_some _ ho)
    · refine (hs.2 x hxs).trans ?_
      exact Heap.get?_update_self _ hx1 rfl

/-- a further field -/
theorem storeMore (T : EC K C B newId initId bmB) {name : Str} {tk : Tok} {v : Value} {x dx : Addr} {fv : Array Value}
    {m0 : Str → Option Value} {nl : List Str}
    (X : K.In hp) (hx : hp.get? x = some { cls := .ref C, dict := some dx, data := .fields fv }) (hns : hp.Ns1 dx m0)
    (hw : Within m0 nl) (hz : nl.length ≤ 1000) (ha : findIn K (.ref C) name = some none)
    (hq : ∀ h' tk', (∀ b o, b ≠ dx → hp.get? b = some o → h'.get? b = some o) →
      h'.Ns1 dx (fun y => if y = name then some v else m0 y) → R (.ok (.ret .none)) ⟨h', g, d, tk', os⟩) :
    codeAny (model prog w) A (.call (.builtin "object.__setattr__") ⟨[.ref x, .str name tk, v], []⟩) R ⟨hp, g, d, t, os⟩ := by
  obtain ⟨oD, esD, epD, hoD, hdD, _⟩ := hns.count hw
  have I : InstAt hp x { cls := .ref C, dict := some dx, data := .fields fv } C (some oD) := ⟨hx, rfl, rfl, hoD⟩
  obtain ⟨cd, hcd, hh⟩ := any_some T.hd
  have hcls : Looks (model prog w) hp (classData C) cd := looks_clsIn X hcd
  refine osa_openX (r := none) T.store X I T.over (by unfold takerIn; rw [ha]; rfl) fun b => ?_
  show wpAny _ _ (storeInOwnDict (.ref x) (.ref C) (.str name tk) name v b) _ _ _
  obtain ⟨nm, bs, mro, ns, qn, hd, sn, sb, ab, col, del⟩ := cd
  dsimp only at hh
  subst hh
  unfold storeInOwnDict ownDictForStores
  repeat (first
    | with_reducible refine OEX.store_in_old hns hw hz ?_
    | with_reducible refine wpAny_loadPart_at hx ?_
    | with_reducible refine hcls.at ?_
    | wp_step)
  intro h' tk' hn' hs
  exact hq h' tk' (fun b o hb ho => (hs.2 b hb).trans ho) hn'

/-- the call of the class, down to its __init__ -/
theorem madeBy {fI : Addr} {rest : List Value} {kw : List (Str × Value)} (T : EC K C B newId initId bmB) (X : K.In s.heap)
    (iC : findIn K (.ref C) "__init__" = some (some (.ref fI))) (tC : typeIn K (.ref fI) = some (.type "function"))
    (hrest : rest.length ≤ sizeLine)
    (hq : codeAny (model prog w) (A.under (.builtin "type.__call__" ⟨.ref C :: rest, kw⟩))
      (.call (.ref fI) ⟨.ref (s.heap.objs.size + 1) :: rest, kw⟩) (InitBack (s.heap.objs.size + 1) R)
      { s with heap := (s.heap.push (kdv_tup rest)).push (HandSPX.excO C s.heap.objs.size) }) :
    codeAny (model prog w) A (.call (.ref C) ⟨rest, kw⟩) R s := by
  obtain ⟨hp, g, dr, tk, os⟩ := s
  obtain ⟨nm, N, qn, bs, bm, hdct, sn, sub, ab, col, dd, k0, k1, k2, k3, k5, hC, hT⟩ := excInit_of X T.ini
  exact called T.base hT hC (looks_findIn X iC) (fun self => bind_fn X self tC) hrest hq

theorem noneOf {a : Addr} (X : K.In hp) (h : hp.objs.size ≤ a) : K.lookup a = none := by
  cases e : K.lookup a with
  | none => rfl
  | some o => exact absurd (Nat.lt_of_lt_of_le (Heap.lt_size (X _ _ e)) h) (Nat.lt_irrefl _)
end

/-- an exception of the class at C that has been made: at e, its fields m in its own dict at d -/
structure Made (h h' : Heap) (e C d : Addr) (m : Str → Option Value) : Prop where
  keep : ∀ b o, h.get? b = some o → h'.get? b = some o
  new : h.objs.size ≤ e
  obj : ∃ t1 : Addr, h'.get? e = some { cls := .ref C, dict := some d, data := .fields #[.ref t1, .none, .none, .none, .bool false, .none] }
  dbig : h.objs.size ≤ d
  dne : d ≠ e
  ns : h'.Ns1 d m

theorem ldLoc {M : Model} {s : Shared} {name : Str} {scope : Scope} {L a : Addr} {cd : Value} {m : Str → Option Value} {x : Str}
    {pos : Pos} {v : Value} {Q : Value → Shared → Prop} {A : Around} {E : Value → Shared → Prop}
    (hn : s.heap.Ns L m) (hv : m x = some v) (h : Q v s) (hk : scope.kind = .function := by rfl)
    (hl : (envOfC name scope L a cd).kindOf x = some .local := by rfl)
    (hd : (x == ("__debug__" : Str)) = false := by decide) :
    wpAny M A (eval (.Name x pos) (envOfC name scope L a cd)) Q E s :=
  wpAny_Name (wpAny_loadName_local hk hl hn hv h) hd
def argsGv (p0 p1 : Pos) : Arguments := { posonlyargs := [], args := [{ arg := "self", annotation := none, pos := p0 }, { arg := "given", annotation := none, pos := p1 }], vararg := none, kwonlyargs := [], kw_defaults := [], kwarg := none, defaults := [] }
def bodyGv (q00 q01 q02 q03 : Pos) : List Stmt := [.Assign [.Attribute (.Name "self" q00) "given" q01] (.Name "given" q02) q03]
def scopeGv : Scope := { kind := .function, names := [(PySem.Str.ofString "self", .local), (PySem.Str.ofString "given", .local)], isGenerator := false, isCoroutine := false, more := [] }
/-- the class at C, its __init__ at fI -/
structure ClsGv (K : Frag) (C fI : Addr) (B newId initId : String) (bmB : List Value) : Prop extends EC K C B newId initId bmB where
  iC : findIn K (.ref C) "__init__" = some (some (.ref fI))
  tC : typeIn K (.ref fI) = some (.type "function")
  n0 : findIn K (.ref C) "given" = some none
  fn : ∃ (oc : Value) (od : Option Addr) (doc pm kV : Value) (an : Option Addr) (cdv ct : Value) (osl : Array (Option Value)) (qual : Str) (p0 p1 q00 q01 q02 q03 : Pos),
    K.lookup fI = some ⟨oc, od, .func (fnOf "__init__" qual (argsGv p0 p1) (bodyGv q00 q01 q02 q03) scopeGv .none kV doc pm an cdv ct), osl⟩ ∧ codeIn K cdv qual = true
theorem initGvP {prog : Program} {w : World} {A : Around} {R : Result → Shared → Prop} {s : Shared} {K : Frag} {C fI x t0 : Addr} {B newId initId : String} {bmB : List Value} {v0 : Value}
    (T : ClsGv K C fI B newId initId bmB) (X : K.In s.heap) (hlim : s.heap.NoLimit) (hx : s.heap.get? x = some (HandSPX.excO C t0)) (hnx : K.lookup x = none) (hroom : A.depth < recursionLimit)
    (hq : ∀ h' tk dx, (∀ b o, b ≠ x → s.heap.get? b = some o → h'.get? b = some o) → h'.get? x = some { cls := .ref C, dict := some dx, data := .fields #[.ref t0, .none, .none, .none, .bool false, .none] } → s.heap.objs.size ≤ dx → dx ≠ x → h'.Ns1 dx (fun (y : Str) => if y = "given" then some v0 else none) → R (.ok (.ret .none)) { s with heap := h', toks := tk }) :
    codeAny (model prog w) A (.call (.ref fI) ⟨[.ref x, v0], []⟩) R s := by
  obtain ⟨oc, od, doc, pm, kV, an, cdv, ct, osl, qual, p0, p1, q00, q01, q02, q03, ho, hcd⟩ := T.fn
  refine Att.call_fn (binds := [("self", .ref x), ("given", v0)]) X hlim ho hcd hroom (PySem.BindsTo.of_eq (by first | rfl | with_unfolding_all rfl)) (by first | rfl | decide | with_unfolding_all rfl) (fun s1 IC => ?_) rfl rfl rfl
  obtain ⟨h1, tk1, rfl⟩ := IC.toInCall.same
  have k : ∀ b o, s.heap.get? b = some o → h1.get? b = some o := IC.toInCall.keep
  have hn0 := IC.toInCall.ns
  have hxL : s.heap.objs.size ≠ x := Nat.ne_of_gt (Heap.lt_size hx)
  have X0 : K.In h1 := X.keeps k
  have hx0 := k _ _ hx
  show wpAny _ _ (execs _ _) _ _ _
  refine wpAny_execs_cons (plainObj_wpAny_Assign_Attribute ?_)
  refine ldLoc (v := v0) hn0 (by first | rfl | with_unfolding_all rfl | kernel_rfl) (ldLoc (v := .ref x) hn0 (by first | rfl | with_unfolding_all rfl | kernel_rfl) ?_)
  refine set_plain X0 (ox := HandSPX.excO C t0) (od := none) ⟨hx0, rfl, rfl, trivial⟩ T.sa ?_
  refine storeNew T.toEC X0 hx0 T.n0 (fun h2 tk2 dx k2 dn dne hx1 ns1 => ?_)
  have X1 : K.In h2 := fun a o e => k2 a o (fun z => by rw [z, hnx] at e; cases e) (X0 a o e)
  have hn1 : h2.Ns s.heap.objs.size _ := let ⟨o, es, ep, e, r⟩ := hn0; ⟨o, es, ep, k2 _ _ hxL e, r⟩
  show wpAny _ _ (execs _ _) _ _ _
  exact wpAny_execs_nil (hq h2 tk2 dx (fun b o hb e => k2 b o hb (k b o e)) hx1 (Nat.le_of_lt (Nat.lt_of_lt_of_le hn0.lt dn)) dne ns1)
theorem madeGvP {prog : Program} {w : World} {A : Around} {R : Result → Shared → Prop} {s : Shared} {K : Frag} {C fI : Addr} {B newId initId : String} {bmB : List Value} {v0 : Value}
    (T : ClsGv K C fI B newId initId bmB) (X : K.In s.heap) (hlim : s.heap.NoLimit) (hroom : A.depth + 1 < recursionLimit)
    (hq : ∀ h' tk e d, Made s.heap h' e C d (fun (y : Str) => if y = "given" then some v0 else none) → R (.ok (.ret (.ref e))) { s with heap := h', toks := tk }) :
    codeAny (model prog w) A (.call (.ref C) ⟨[v0], []⟩) R s := by
  obtain ⟨hp, g, dr, tk, os⟩ := s
  have k : ∀ b o, hp.get? b = some o → ((hp.push (kdv_tup [v0])).push (HandSPX.excO C hp.objs.size)).get? b = some o := fun b o e => Heap.get?_push_of_some _ (Heap.get?_push_of_some _ e)
  have hget : ((hp.push (kdv_tup [v0])).push (HandSPX.excO C hp.objs.size)).get? (hp.objs.size + 1) = some (HandSPX.excO C hp.objs.size) := by heap_get
  refine madeBy T.toEC X T.iC T.tC (by rw [sizeLine_eq]; simp) ?_
  refine initGvP (s := ⟨(hp.push (kdv_tup [v0])).push (HandSPX.excO C hp.objs.size), g, dr, tk, os⟩) T (X.keeps k) (hlim.keeps k) hget (noneOf X (Nat.le_succ _)) ?_ (fun h' tk' dx k' hx dn dne hns => ?_)
  · show A.depth + 1 < recursionLimit
    exact hroom
  · have old : ∀ b o, hp.get? b = some o → h'.get? b = some o := fun b o e => k' b o (Nat.ne_of_lt (Nat.lt_succ_of_lt (Heap.lt_size e))) (k b o e)
    have z : hp.objs.size ≤ dx := by
      have q := dn
      simp only [Heap.size_push] at q
      omega
    exact ⟨rfl, hq h' tk' (hp.objs.size + 1) dx ⟨old, Nat.le_succ _, ⟨_, hx⟩, z, dne, hns⟩⟩
theorem initGvK {prog : Program} {w : World} {A : Around} {R : Result → Shared → Prop} {s : Shared} {K : Frag} {C fI x t0 : Addr} {B newId initId : String} {bmB : List Value} {v0 : Value}
    (T : ClsGv K C fI B newId initId bmB) (X : K.In s.heap) (hlim : s.heap.NoLimit) (hx : s.heap.get? x = some (HandSPX.excO C t0)) (hnx : K.lookup x = none) (hroom : A.depth < recursionLimit)
    (hq : ∀ h' tk dx, (∀ b o, b ≠ x → s.heap.get? b = some o → h'.get? b = some o) → h'.get? x = some { cls := .ref C, dict := some dx, data := .fields #[.ref t0, .none, .none, .none, .bool false, .none] } → s.heap.objs.size ≤ dx → dx ≠ x → h'.Ns1 dx (fun (y : Str) => if y = "given" then some v0 else none) → R (.ok (.ret .none)) { s with heap := h', toks := tk }) :
    codeAny (model prog w) A (.call (.ref fI) ⟨[.ref x], [("given", v0)]⟩) R s := by
  obtain ⟨oc, od, doc, pm, kV, an, cdv, ct, osl, qual, p0, p1, q00, q01, q02, q03, ho, hcd⟩ := T.fn
  refine Att.call_fn (binds := [("self", .ref x), ("given", v0)]) X hlim ho hcd hroom (PySem.BindsTo.of_eq (by first | rfl | with_unfolding_all rfl)) (by first | rfl | decide | with_unfolding_all rfl) (fun s1 IC => ?_) rfl rfl rfl
  obtain ⟨h1, tk1, rfl⟩ := IC.toInCall.same
  have k : ∀ b o, s.heap.get? b = some o → h1.get? b = some o := IC.toInCall.keep
  have hn0 := IC.toInCall.ns
  have hxL : s.heap.objs.size ≠ x := Nat.ne_of_gt (Heap.lt_size hx)
  have X0 : K.In h1 := X.keeps k
  have hx0 := k _ _ hx
  show wpAny _ _ (execs _ _) _ _ _
  refine wpAny_execs_cons (plainObj_wpAny_Assign_Attribute ?_)
  refine ldLoc (v := v0) hn0 (by first | rfl | with_unfolding_all rfl | kernel_rfl) (ldLoc (v := .ref x) hn0 (by first | rfl | with_unfolding_all rfl | kernel_rfl) ?_)
  refine set_plain X0 (ox := HandSPX.excO C t0) (od := none) ⟨hx0, rfl, rfl, trivial⟩ T.sa ?_
  refine storeNew T.toEC X0 hx0 T.n0 (fun h2 tk2 dx k2 dn dne hx1 ns1 => ?_)
  have X1 : K.In h2 := fun a o e => k2 a o (fun z => by rw [z, hnx] at e; cases e) (X0 a o e)
  have hn1 : h2.Ns s.heap.objs.size _ := let ⟨o, es, ep, e, r⟩ := hn0; ⟨o, es, ep, k2 _ _ hxL e, r⟩
  show wpAny _ _ (execs _ _) _ _ _
  exact wpAny_execs_nil (hq h2 tk2 dx (fun b o hb e => k2 b o hb (k b o e)) hx1 (Nat.le_of_lt (Nat.lt_of_lt_of_le hn0.lt dn)) dne ns1)
theorem madeGvK {prog : Program} {w : World} {A : Around} {R : Result → Shared → Prop} {s : Shared} {K : Frag} {C fI : Addr} {B newId initId : String} {bmB : List Value} {v0 : Value}
    (T : ClsGv K C fI B newId initId bmB) (X : K.In s.heap) (hlim : s.heap.NoLimit) (hroom : A.depth + 1 < recursionLimit)
    (hq : ∀ h' tk e d, Made s.heap h' e C d (fun (y : Str) => if y = "given" then some v0 else none) → R (.ok (.ret (.ref e))) { s with heap := h', toks := tk }) :
    codeAny (model prog w) A (.call (.ref C) ⟨[], [("given", v0)]⟩) R s := by
  obtain ⟨hp, g, dr, tk, os⟩ := s
  have k : ∀ b o, hp.get? b = some o → ((hp.push (kdv_tup [])).push (HandSPX.excO C hp.objs.size)).get? b = some o := fun b o e => Heap.get?_push_of_some _ (Heap.get?_push_of_some _ e)
  have hget : ((hp.push (kdv_tup [])).push (HandSPX.excO C hp.objs.size)).get? (hp.objs.size + 1) = some (HandSPX.excO C hp.objs.size) := by heap_get
  refine madeBy T.toEC X T.iC T.tC (by rw [sizeLine_eq]; simp) ?_
  refine initGvK (s := ⟨(hp.push (kdv_tup [])).push (HandSPX.excO C hp.objs.size), g, dr, tk, os⟩) T (X.keeps k) (hlim.keeps k) hget (noneOf X (Nat.le_succ _)) ?_ (fun h' tk' dx k' hx dn dne hns => ?_)
  · show A.depth + 1 < recursionLimit
    exact hroom
  · have old : ∀ b o, hp.get? b = some o → h'.get? b = some o := fun b o e => k' b o (Nat.ne_of_lt (Nat.lt_succ_of_lt (Heap.lt_size e))) (k b o e)
    have z : hp.objs.size ≤ dx := by
      have q := dn
      simp only [Heap.size_push] at q
      omega
    exact ⟨rfl, hq h' tk' (hp.objs.size + 1) dx ⟨old, Nat.le_succ _, ⟨_, hx⟩, z, dne, hns⟩⟩
def argsIx (p0 p1 : Pos) : Arguments := { posonlyargs := [], args := [{ arg := "self", annotation := none, pos := p0 }, { arg := "index", annotation := none, pos := p1 }], vararg := none, kwonlyargs := [], kw_defaults := [], kwarg := none, defaults := [] }
def bodyIx (q00 q01 q02 q03 : Pos) : List Stmt := [.Assign [.Attribute (.Name "self" q00) "index" q01] (.Name "index" q02) q03]
def scopeIx : Scope := { kind := .function, names := [(PySem.Str.ofString "self", .local), (PySem.Str.ofString "index", .local)], isGenerator := false, isCoroutine := false, more := [] }
/-- the class at C, its __init__ at fI -/
structure ClsIx (K : Frag) (C fI : Addr) (B newId initId : String) (bmB : List Value) : Prop extends EC K C B newId initId bmB where
  iC : findIn K (.ref C) "__init__" = some (some (.ref fI))
  tC : typeIn K (.ref fI) = some (.type "function")
  n0 : findIn K (.ref C) "index" = some none
  fn : ∃ (oc : Value) (od : Option Addr) (doc pm kV : Value) (an : Option Addr) (cdv ct : Value) (osl : Array (Option Value)) (qual : Str) (p0 p1 q00 q01 q02 q03 : Pos),
    K.lookup fI = some ⟨oc, od, .func (fnOf "__init__" qual (argsIx p0 p1) (bodyIx q00 q01 q02 q03) scopeIx .none kV doc pm an cdv ct), osl⟩ ∧ codeIn K cdv qual = true
theorem initIxP {prog : Program} {w : World} {A : Around} {R : Result → Shared → Prop} {s : Shared} {K : Frag} {C fI x t0 : Addr} {B newId initId : String} {bmB : List Value} {v0 : Value}
    (T : ClsIx K C fI B newId initId bmB) (X : K.In s.heap) (hlim : s.heap.NoLimit) (hx : s.heap.get? x = some (HandSPX.excO C t0)) (hnx : K.lookup x = none) (hroom : A.depth < recursionLimit)
    (hq : ∀ h' tk dx, (∀ b o, b ≠ x → s.heap.get? b = some o → h'.get? b = some o) → h'.get? x = some { cls := .ref C, dict := some dx, data := .fields #[.ref t0, .none, .none, .none, .bool false, .none] } → s.heap.objs.size ≤ dx → dx ≠ x → h'.Ns1 dx (fun (y : Str) => if y = "index" then some v0 else none) → R (.ok (.ret .none)) { s with heap := h', toks := tk }) :
    codeAny (model prog w) A (.call (.ref fI) ⟨[.ref x, v0], []⟩) R s := by
  obtain ⟨oc, od, doc, pm, kV, an, cdv, ct, osl, qual, p0, p1, q00, q01, q02, q03, ho, hcd⟩ := T.fn
  refine Att.call_fn (binds := [("self", .ref x), ("index", v0)]) X hlim ho hcd hroom (PySem.BindsTo.of_eq (by first | rfl | with_unfolding_all rfl)) (by first | rfl | decide | with_unfolding_all rfl) (fun s1 IC => ?_) rfl rfl rfl
  obtain ⟨h1, tk1, rfl⟩ := IC.toInCall.same
  have k : ∀ b o, s.heap.get? b = some o → h1.get? b = some o := IC.toInCall.keep
  have hn0 := IC.toInCall.ns
  have hxL : s.heap.objs.size ≠ x := Nat.ne_of_gt (Heap.lt_size hx)
  have X0 : K.In h1 := X.keeps k
  have hx0 := k _ _ hx
  show wpAny _ _ (execs _ _) _ _ _
  refine wpAny_execs_cons (plainObj_wpAny_Assign_Attribute ?_)
  refine ldLoc (v := v0) hn0 (by first | rfl | with_unfolding_all rfl | kernel_rfl) (ldLoc (v := .ref x) hn0 (by first | rfl | with_unfolding_all rfl | kernel_rfl) ?_)
  refine set_plain X0 (ox := HandSPX.excO C t0) (od := none) ⟨hx0, rfl, rfl, trivial⟩ T.sa ?_
  refine storeNew T.toEC X0 hx0 T.n0 (fun h2 tk2 dx k2 dn dne hx1 ns1 => ?_)
  have X1 : K.In h2 := fun a o e => k2 a o (fun z => by rw [z, hnx] at e; cases e) (X0 a o e)
  have hn1 : h2.Ns s.heap.objs.size _ := let ⟨o, es, ep, e, r⟩ := hn0; ⟨o, es, ep, k2 _ _ hxL e, r⟩
  show wpAny _ _ (execs _ _) _ _ _
  exact wpAny_execs_nil (hq h2 tk2 dx (fun b o hb e => k2 b o hb (k b o e)) hx1 (Nat.le_of_lt (Nat.lt_of_lt_of_le hn0.lt dn)) dne ns1)
theorem madeIxP {prog : Program} {w : World} {A : Around} {R : Result → Shared → Prop} {s : Shared} {K : Frag} {C fI : Addr} {B newId initId : String} {bmB : List Value} {v0 : Value}
    (T : ClsIx K C fI B newId initId bmB) (X : K.In s.heap) (hlim : s.heap.NoLimit) (hroom : A.depth + 1 < recursionLimit)
    (hq : ∀ h' tk e d, Made s.heap h' e C d (fun (y : Str) => if y = "index" then some v0 else none) → R (.ok (.ret (.ref e))) { s with heap := h', toks := tk }) :
    codeAny (model prog w) A (.call (.ref C) ⟨[v0], []⟩) R s := by
  obtain ⟨hp, g, dr, tk, os⟩ := s
  have k : ∀ b o, hp.get? b = some o → ((hp.push (kdv_tup [v0])).push (HandSPX.excO C hp.objs.size)).get? b = some o := fun b o e => Heap.get?_push_of_some _ (Heap.get?_push_of_some _ e)
  have hget : ((hp.push (kdv_tup [v0])).push (HandSPX.excO C hp.objs.size)).get? (hp.objs.size + 1) = some (HandSPX.excO C hp.objs.size) := by heap_get
  refine madeBy T.toEC X T.iC T.tC (by rw [sizeLine_eq]; simp) ?_
  refine initIxP (s := ⟨(hp.push (kdv_tup [v0])).push (HandSPX.excO C hp.objs.size), g, dr, tk, os⟩) T (X.keeps k) (hlim.keeps k) hget (noneOf X (Nat.le_succ _)) ?_ (fun h' tk' dx k' hx dn dne hns => ?_)
  · show A.depth + 1 < recursionLimit
    exact hroom
  · have old : ∀ b o, hp.get? b = some o → h'.get? b = some o := fun b o e => k' b o (Nat.ne_of_lt (Nat.lt_succ_of_lt (Heap.lt_size e))) (k b o e)
    have z : hp.objs.size ≤ dx := by
      have q := dn
      simp only [Heap.size_push] at q
      omega
    exact ⟨rfl, hq h' tk' (hp.objs.size + 1) dx ⟨old, Nat.le_succ _, ⟨_, hx⟩, z, dne, hns⟩⟩
theorem initIxK {prog : Program} {w : World} {A : Around} {R : Result → Shared → Prop} {s : Shared} {K : Frag} {C fI x t0 : Addr} {B newId initId : String} {bmB : List Value} {v0 : Value}
    (T : ClsIx K C fI B newId initId bmB) (X : K.In s.heap) (hlim : s.heap.NoLimit) (hx : s.heap.get? x = some (HandSPX.excO C t0)) (hnx : K.lookup x = none) (hroom : A.depth < recursionLimit)
    (hq : ∀ h' tk dx, (∀ b o, b ≠ x → s.heap.get? b = some o → h'.get? b = some o) → h'.get? x = some { cls := .ref C, dict := some dx, data := .fields #[.ref t0, .none, .none, .none, .bool false, .none] } → s.heap.objs.size ≤ dx → dx ≠ x → h'.Ns1 dx (fun (y : Str) => if y = "index" then some v0 else none) → R (.ok (.ret .none)) { s with heap := h', toks := tk }) :
    codeAny (model prog w) A (.call (.ref fI) ⟨[.ref x], [("index", v0)]⟩) R s := by
  obtain ⟨oc, od, doc, pm, kV, an, cdv, ct, osl, qual, p0, p1, q00, q01, q02, q03, ho, hcd⟩ := T.fn
  refine Att.call_fn (binds := [("self", .ref x), ("index", v0)]) X hlim ho hcd hroom (PySem.BindsTo.of_eq (by first | rfl | with_unfolding_all rfl)) (by first | rfl | decide | with_unfolding_all rfl) (fun s1 IC => ?_) rfl rfl rfl
  obtain ⟨h1, tk1, rfl⟩ := IC.toInCall.same
  have k : ∀ b o, s.heap.get? b = some o → h1.get? b = some o := IC.toInCall.keep
  have hn0 := IC.toInCall.ns
  have hxL : s.heap.objs.size ≠ x := Nat.ne_of_gt (Heap.lt_size hx)
  have X0 : K.In h1 := X.keeps k
  have hx0 := k _ _ hx
  show wpAny _ _ (execs _ _) _ _ _
  refine wpAny_execs_cons (plainObj_wpAny_Assign_Attribute ?_)
  refine ldLoc (v := v0) hn0 (by first | rfl | with_unfolding_all rfl | kernel_rfl) (ldLoc (v := .ref x) hn0 (by first | rfl | with_unfolding_all rfl | kernel_rfl) ?_)
  refine set_plain X0 (ox := HandSPX.excO C t0) (od := none) ⟨hx0, rfl, rfl, trivial⟩ T.sa ?_
  refine storeNew T.toEC X0 hx0 T.n0 (fun h2 tk2 dx k2 dn dne hx1 ns1 => ?_)
  have X1 : K.In h2 := fun a o e => k2 a o (fun z => by rw [z, hnx] at e; cases e) (X0 a o e)
  have hn1 : h2.Ns s.heap.objs.size _ := let ⟨o, es, ep, e, r⟩ := hn0; ⟨o, es, ep, k2 _ _ hxL e, r⟩
  show wpAny _ _ (execs _ _) _ _ _
  exact wpAny_execs_nil (hq h2 tk2 dx (fun b o hb e => k2 b o hb (k b o e)) hx1 (Nat.le_of_lt (Nat.lt_of_lt_of_le hn0.lt dn)) dne ns1)
theorem madeIxK {prog : Program} {w : World} {A : Around} {R : Result → Shared → Prop} {s : Shared} {K : Frag} {C fI : Addr} {B newId initId : String} {bmB : List Value} {v0 : Value}
    (T : ClsIx K C fI B newId initId bmB) (X : K.In s.heap) (hlim : s.heap.NoLimit) (hroom : A.depth + 1 < recursionLimit)
    (hq : ∀ h' tk e d, Made s.heap h' e C d (fun (y : Str) => if y = "index" then some v0 else none) → R (.ok (.ret (.ref e))) { s with heap := h', toks := tk }) :
    codeAny (model prog w) A (.call (.ref C) ⟨[], [("index", v0)]⟩) R s := by
  obtain ⟨hp, g, dr, tk, os⟩ := s
  have k : ∀ b o, hp.get? b = some o → ((hp.push (kdv_tup [])).push (HandSPX.excO C hp.objs.size)).get? b = some o := fun b o e => Heap.get?_push_of_some _ (Heap.get?_push_of_some _ e)
  have hget : ((hp.push (kdv_tup [])).push (HandSPX.excO C hp.objs.size)).get? (hp.objs.size + 1) = some (HandSPX.excO C hp.objs.size) := by heap_get
  refine madeBy T.toEC X T.iC T.tC (by rw [sizeLine_eq]; simp) ?_
  refine initIxK (s := ⟨(hp.push (kdv_tup [])).push (HandSPX.excO C hp.objs.size), g, dr, tk, os⟩) T (X.keeps k) (hlim.keeps k) hget (noneOf X (Nat.le_succ _)) ?_ (fun h' tk' dx k' hx dn dne hns => ?_)
  · show A.depth + 1 < recursionLimit
    exact hroom
  · have old : ∀ b o, hp.get? b = some o → h'.get? b = some o := fun b o e => k' b o (Nat.ne_of_lt (Nat.lt_succ_of_lt (Heap.lt_size e))) (k b o e)
    have z : hp.objs.size ≤ dx := by
      have q := dn
      simp only [Heap.size_push] at q
      omega
    exact ⟨rfl, hq h' tk' (hp.objs.size + 1) dx ⟨old, Nat.le_succ _, ⟨_, hx⟩, z, dne, hns⟩⟩
def argsMo (p0 p1 : Pos) : Arguments := { posonlyargs := [], args := [{ arg := "self", annotation := none, pos := p0 }, { arg := "most", annotation := none, pos := p1 }], vararg := none, kwonlyargs := [], kw_defaults := [], kwarg := none, defaults := [] }
def bodyMo (q00 q01 q02 q03 : Pos) : List Stmt := [.Assign [.Attribute (.Name "self" q00) "most" q01] (.Name "most" q02) q03]
def scopeMo : Scope := { kind := .function, names := [(PySem.Str.ofString "self", .local), (PySem.Str.ofString "most", .local)], isGenerator := false, isCoroutine := false, more := [] }
/-- the class at C, its __init__ at fI -/
structure ClsMo (K : Frag) (C fI : Addr) (B newId initId : String) (bmB : List Value) : Prop extends EC K C B newId initId bmB where
  iC : findIn K (.ref C) "__init__" = some (some (.ref fI))
  tC : typeIn K (.ref fI) = some (.type "function")
  n0 : findIn K (.ref C) "most" = some none
  fn : ∃ (oc : Value) (od : Option Addr) (doc pm kV : Value) (an : Option Addr) (cdv ct : Value) (osl : Array (Option Value)) (qual : Str) (p0 p1 q00 q01 q02 q03 : Pos),
    K.lookup fI = some ⟨oc, od, .func (fnOf "__init__" qual (argsMo p0 p1) (bodyMo q00 q01 q02 q03) scopeMo .none kV doc pm an cdv ct), osl⟩ ∧ codeIn K cdv qual = true
theorem initMoP {prog : Program} {w : World} {A : Around} {R : Result → Shared → Prop} {s : Shared} {K : Frag} {C fI x t0 : Addr} {B newId initId : String} {bmB : List Value} {v0 : Value}
    (T : ClsMo K C fI B newId initId bmB) (X : K.In s.heap) (hlim : s.heap.NoLimit) (hx : s.heap.get? x = some (HandSPX.excO C t0)) (hnx : K.lookup x = none) (hroom : A.depth < recursionLimit)
    (hq : ∀ h' tk dx, (∀ b o, b ≠ x → s.heap.get? b = some o → h'.get? b = some o) → h'.get? x = some { cls := .ref C, dict := some dx, data := .fields #[.ref t0, .none, .none, .none, .bool false, .none] } → s.heap.objs.size ≤ dx → dx ≠ x → h'.Ns1 dx (fun (y : Str) => if y = "most" then some v0 else none) → R (.ok (.ret .none)) { s with heap := h', toks := tk }) :
    codeAny (model prog w) A (.call (.ref fI) ⟨[.ref x, v0], []⟩) R s := by
  obtain ⟨oc, od, doc, pm, kV, an, cdv, ct, osl, qual, p0, p1, q00, q01, q02, q03, ho, hcd⟩ := T.fn
  refine Att.call_fn (binds := [("self", .ref x), ("most", v0)]) X hlim ho hcd hroom (PySem.BindsTo.of_eq (by first | rfl | with_unfolding_all rfl)) (by first | rfl | decide | with_unfolding_all rfl) (fun s1 IC => ?_) rfl rfl rfl
  obtain ⟨h1, tk1, rfl⟩ := IC.toInCall.same
  have k : ∀ b o, s.heap.get? b = some o → h1.get? b = some o := IC.toInCall.keep
  have hn0 := IC.toInCall.ns
  have hxL : s.heap.objs.size ≠ x := Nat.ne_of_gt (Heap.lt_size hx)
  have X0 : K.In h1 := X.keeps k
  have hx0 := k _ _ hx
  show wpAny _ _ (execs _ _) _ _ _
  refine wpAny_execs_cons (plainObj_wpAny_Assign_Attribute ?_)
  refine ldLoc (v := v0) hn0 (by first | rfl | with_unfolding_all rfl | kernel_rfl) (ldLoc (v := .ref x) hn0 (by first | rfl | with_unfolding_all rfl | kernel_rfl) ?_)
  refine set_plain X0 (ox := HandSPX.excO C t0) (od := none) ⟨hx0, rfl, rfl, trivial⟩ T.sa ?_
  refine storeNew T.toEC X0 hx0 T.n0 (fun h2 tk2 dx k2 dn dne hx1 ns1 => ?_)
  have X1 : K.In h2 := fun a o e => k2 a o (fun z => by rw [z, hnx] at e; cases e) (X0 a o e)
  have hn1 : h2.Ns s.heap.objs.size _ := let ⟨o, es, ep, e, r⟩ := hn0; ⟨o, es, ep, k2 _ _ hxL e, r⟩
  show wpAny _ _ (execs _ _) _ _ _
  exact wpAny_execs_nil (hq h2 tk2 dx (fun b o hb e => k2 b o hb (k b o e)) hx1 (Nat.le_of_lt (Nat.lt_of_lt_of_le hn0.lt dn)) dne ns1)
theorem madeMoP {prog : Program} {w : World} {A : Around} {R : Result → Shared → Prop} {s : Shared} {K : Frag} {C fI : Addr} {B newId initId : String} {bmB : List Value} {v0 : Value}
    (T : ClsMo K C fI B newId initId bmB) (X : K.In s.heap) (hlim : s.heap.NoLimit) (hroom : A.depth + 1 < recursionLimit)
    (hq : ∀ h' tk e d, Made s.heap h' e C d (fun (y : Str) => if y = "most" then some v0 else none) → R (.ok (.ret (.ref e))) { s with heap := h', toks := tk }) :
    codeAny (model prog w) A (.call (.ref C) ⟨[v0], []⟩) R s := by
  obtain ⟨hp, g, dr, tk, os⟩ := s
  have k : ∀ b o, hp.get? b = some o → ((hp.push (kdv_tup [v0])).push (HandSPX.excO C hp.objs.size)).get? b = some o := fun b o e => Heap.get?_push_of_some _ (Heap.get?_push_of_some _ e)
  have hget : ((hp.push (kdv_tup [v0])).push (HandSPX.excO C hp.objs.size)).get? (hp.objs.size + 1) = some (HandSPX.excO C hp.objs.size) := by heap_get
  refine madeBy T.toEC X T.iC T.tC (by rw [sizeLine_eq]; simp) ?_
  refine initMoP (s := ⟨(hp.push (kdv_tup [v0])).push (HandSPX.excO C hp.objs.size), g, dr, tk, os⟩) T (X.keeps k) (hlim.keeps k) hget (noneOf X (Nat.le_succ _)) ?_ (fun h' tk' dx k' hx dn dne hns => ?_)
  · show A.depth + 1 < recursionLimit
    exact hroom
  · have old : ∀ b o, hp.get? b = some o → h'.get? b = some o := fun b o e => k' b o (Nat.ne_of_lt (Nat.lt_succ_of_lt (Heap.lt_size e))) (k b o e)
    have z : hp.objs.size ≤ dx := by
      have q := dn
      simp only [Heap.size_push] at q
      omega
    exact ⟨rfl, hq h' tk' (hp.objs.size + 1) dx ⟨old, Nat.le_succ _, ⟨_, hx⟩, z, dne, hns⟩⟩
theorem initMoK {prog : Program} {w : World} {A : Around} {R : Result → Shared → Prop} {s : Shared} {K : Frag} {C fI x t0 : Addr} {B newId initId : String} {bmB : List Value} {v0 : Value}
    (T : ClsMo K C fI B newId initId bmB) (X : K.In s.heap) (hlim : s.heap.NoLimit) (hx : s.heap.get? x = some (HandSPX.excO C t0)) (hnx : K.lookup x = none) (hroom : A.depth < recursionLimit)
    (hq : ∀ h' tk dx, (∀ b o, b ≠ x → s.heap.get? b = some o → h'.get? b = some o) → h'.get? x = some { cls := .ref C, dict := some dx, data := .fields #[.ref t0, .none, .none, .none, .bool false, .none] } → s.heap.objs.size ≤ dx → dx ≠ x → h'.Ns1 dx (fun (y : Str) => if y = "most" then some v0 else none) → R (.ok (.ret .none)) { s with heap := h', toks := tk }) :
    codeAny (model prog w) A (.call (.ref fI) ⟨[.ref x], [("most", v0)]⟩) R s := by
  obtain ⟨oc, od, doc, pm, kV, an, cdv, ct, osl, qual, p0, p1, q00, q01, q02, q03, ho, hcd⟩ := T.fn
  refine Att.call_fn (binds := [("self", .ref x), ("most", v0)]) X hlim ho hcd hroom (PySem.BindsTo.of_eq (by first | rfl | with_unfolding_all rfl)) (by first | rfl | decide | with_unfolding_all rfl) (fun s1 IC => ?_) rfl rfl rfl
  obtain ⟨h1, tk1, rfl⟩ := IC.toInCall.same
  have k : ∀ b o, s.heap.get? b = some o → h1.get? b = some o := IC.toInCall.keep
  have hn0 := IC.toInCall.ns
  have hxL : s.heap.objs.size ≠ x := Nat.ne_of_gt (Heap.lt_size hx)
  have X0 : K.In h1 := X.keeps k
  have hx0 := k _ _ hx
  show wpAny _ _ (execs _ _) _ _ _
  refine wpAny_execs_cons (plainObj_wpAny_Assign_Attribute ?_)
  refine ldLoc (v := v0) hn0 (by first | rfl | with_unfolding_all rfl | kernel_rfl) (ldLoc (v := .ref x) hn0 (by first | rfl | with_unfolding_all rfl | kernel_rfl) ?_)
  refine set_plain X0 (ox := HandSPX.excO C t0) (od := none) ⟨hx0, rfl, rfl, trivial⟩ T.sa ?_
  refine storeNew T.toEC X0 hx0 T.n0 (fun h2 tk2 dx k2 dn dne hx1 ns1 => ?_)
  have X1 : K.In h2 := fun a o e => k2 a o (fun z => by rw [z, hnx] at e; cases e) (X0 a o e)
  have hn1 : h2.Ns s.heap.objs.size _ := let ⟨o, es, ep, e, r⟩ := hn0; ⟨o, es, ep, k2 _ _ hxL e, r⟩
  show wpAny _ _ (execs _ _) _ _ _
  exact wpAny_execs_nil (hq h2 tk2 dx (fun b o hb e => k2 b o hb (k b o e)) hx1 (Nat.le_of_lt (Nat.lt_of_lt_of_le hn0.lt dn)) dne ns1)
theorem madeMoK {prog : Program} {w : World} {A : Around} {R : Result → Shared → Prop} {s : Shared} {K : Frag} {C fI : Addr} {B newId initId : String} {bmB : List Value} {v0 : Value}
    (T : ClsMo K C fI B newId initId bmB) (X : K.In s.heap) (hlim : s.heap.NoLimit) (hroom : A.depth + 1 < recursionLimit)
    (hq : ∀ h' tk e d, Made s.heap h' e C d (fun (y : Str) => if y = "most" then some v0 else none) → R (.ok (.ret (.ref e))) { s with heap := h', toks := tk }) :
    codeAny (model prog w) A (.call (.ref C) ⟨[], [("most", v0)]⟩) R s := by
  obtain ⟨hp, g, dr, tk, os⟩ := s
  have k : ∀ b o, hp.get? b = some o → ((hp.push (kdv_tup [])).push (HandSPX.excO C hp.objs.size)).get? b = some o := fun b o e => Heap.get?_push_of_some _ (Heap.get?_push_of_some _ e)
  have hget : ((hp.push (kdv_tup [])).push (HandSPX.excO C hp.objs.size)).get? (hp.objs.size + 1) = some (HandSPX.excO C hp.objs.size) := by heap_get
  refine madeBy T.toEC X T.iC T.tC (by rw [sizeLine_eq]; simp) ?_
  refine initMoK (s := ⟨(hp.push (kdv_tup [])).push (HandSPX.excO C hp.objs.size), g, dr, tk, os⟩) T (X.keeps k) (hlim.keeps k) hget (noneOf X (Nat.le_succ _)) ?_ (fun h' tk' dx k' hx dn dne hns => ?_)
  · show A.depth + 1 < recursionLimit
    exact hroom
  · have old : ∀ b o, hp.get? b = some o → h'.get? b = some o := fun b o e => k' b o (Nat.ne_of_lt (Nat.lt_succ_of_lt (Heap.lt_size e))) (k b o e)
    have z : hp.objs.size ≤ dx := by
      have q := dn
      simp only [Heap.size_push] at q
      omega
    exact ⟨rfl, hq h' tk' (hp.objs.size + 1) dx ⟨old, Nat.le_succ _, ⟨_, hx⟩, z, dne, hns⟩⟩
def argsBr (p0 p1 p2 : Pos) : Arguments := { posonlyargs := [], args := [{ arg := "self", annotation := none, pos := p0 }, { arg := "index", annotation := none, pos := p1 }, { arg := "shown", annotation := none, pos := p2 }], vararg := none, kwonlyargs := [], kw_defaults := [], kwarg := none, defaults := [] }
def bodyBr (q00 q01 q02 q03 q10 q11 q12 q13 : Pos) : List Stmt := [.Assign [.Attribute (.Name "self" q00) "index" q01] (.Name "index" q02) q03, .Assign [.Attribute (.Name "self" q10) "shown" q11] (.Name "shown" q12) q13]
def scopeBr : Scope := { kind := .function, names := [(PySem.Str.ofString "self", .local), (PySem.Str.ofString "index", .local), (PySem.Str.ofString "shown", .local)], isGenerator := false, isCoroutine := false, more := [] }
/-- the class at C, its __init__ at fI -/
structure ClsBr (K : Frag) (C fI : Addr) (B newId initId : String) (bmB : List Value) : Prop extends EC K C B newId initId bmB where
  iC : findIn K (.ref C) "__init__" = some (some (.ref fI))
  tC : typeIn K (.ref fI) = some (.type "function")
  n0 : findIn K (.ref C) "index" = some none
  n1 : findIn K (.ref C) "shown" = some none
  fn : ∃ (oc : Value) (od : Option Addr) (doc pm kV : Value) (an : Option Addr) (cdv ct : Value) (osl : Array (Option Value)) (qual : Str) (p0 p1 p2 q00 q01 q02 q03 q10 q11 q12 q13 : Pos),
    K.lookup fI = some ⟨oc, od, .func (fnOf "__init__" qual (argsBr p0 p1 p2) (bodyBr q00 q01 q02 q03 q10 q11 q12 q13) scopeBr .none kV doc pm an cdv ct), osl⟩ ∧ codeIn K cdv qual = true
theorem initBrP {prog : Program} {w : World} {A : Around} {R : Result → Shared → Prop} {s : Shared} {K : Frag} {C fI x t0 : Addr} {B newId initId : String} {bmB : List Value} {v0 v1 : Value}
    (T : ClsBr K C fI B newId initId bmB) (X : K.In s.heap) (hlim : s.heap.NoLimit) (hx : s.heap.get? x = some (HandSPX.excO C t0)) (hnx : K.lookup x = none) (hroom : A.depth < recursionLimit)
    (hq : ∀ h' tk dx, (∀ b o, b ≠ x → s.heap.get? b = some o → h'.get? b = some o) → h'.get? x = some { cls := .ref C, dict := some dx, data := .fields #[.ref t0, .none, .none, .none, .bool false, .none] } → s.heap.objs.size ≤ dx → dx ≠ x → h'.Ns1 dx (fun (y : Str) => if y = "shown" then some v1 else if y = "index" then some v0 else none) → R (.ok (.ret .none)) { s with heap := h', toks := tk }) :
    codeAny (model prog w) A (.call (.ref fI) ⟨[.ref x, v0, v1], []⟩) R s := by
  obtain ⟨oc, od, doc, pm, kV, an, cdv, ct, osl, qual, p0, p1, p2, q00, q01, q02, q03, q10, q11, q12, q13, ho, hcd⟩ := T.fn
  refine Att.call_fn (binds := [("self", .ref x), ("index", v0), ("shown", v1)]) X hlim ho hcd hroom (PySem.BindsTo.of_eq (by first | rfl | with_unfolding_all rfl)) (by first | rfl | decide | with_unfolding_all rfl) (fun s1 IC => ?_) rfl rfl rfl
  obtain ⟨h1, tk1, rfl⟩ := IC.toInCall.same
  have k : ∀ b o, s.heap.get? b = some o → h1.get? b = some o := IC.toInCall.keep
  have hn0 := IC.toInCall.ns
  have hxL : s.heap.objs.size ≠ x := Nat.ne_of_gt (Heap.lt_size hx)
  have X0 : K.In h1 := X.keeps k
  have hx0 := k _ _ hx
  show wpAny _ _ (execs _ _) _ _ _
  refine wpAny_execs_cons (plainObj_wpAny_Assign_Attribute ?_)
  refine ldLoc (v := v0) hn0 (by first | rfl | with_unfolding_all rfl | kernel_rfl) (ldLoc (v := .ref x) hn0 (by first | rfl | with_unfolding_all rfl | kernel_rfl) ?_)
  refine set_plain X0 (ox := HandSPX.excO C t0) (od := none) ⟨hx0, rfl, rfl, trivial⟩ T.sa ?_
  refine storeNew T.toEC X0 hx0 T.n0 (fun h2 tk2 dx k2 dn dne hx1 ns1 => ?_)
  have X1 : K.In h2 := fun a o e => k2 a o (fun z => by rw [z, hnx] at e; cases e) (X0 a o e)
  have hn1 : h2.Ns s.heap.objs.size _ := let ⟨o, es, ep, e, r⟩ := hn0; ⟨o, es, ep, k2 _ _ hxL e, r⟩
  show wpAny _ _ (execs _ _) _ _ _
  refine wpAny_execs_cons (plainObj_wpAny_Assign_Attribute ?_)
  refine ldLoc (v := v1) hn1 (by first | rfl | with_unfolding_all rfl | kernel_rfl) (ldLoc (v := .ref x) hn1 (by first | rfl | with_unfolding_all rfl | kernel_rfl) ?_)
  have dnL : s.heap.objs.size ≠ dx := Nat.ne_of_lt (Nat.lt_of_lt_of_le hn0.lt dn)
  obtain ⟨oD1, hoD1, _⟩ := L2.lookIn_ns ns1
  refine set_plain X1 (ox := { cls := .ref C, dict := some dx, data := .fields #[.ref t0, .none, .none, .none, .bool false, .none] }) (od := some oD1) ⟨hx1, rfl, rfl, hoD1⟩ T.sa ?_
  refine storeMore T.toEC X1 hx1 ns1 (Within.cons "index" v0 Within.nil) (by show 1 ≤ 1000; decide) T.n1 (fun h3 tk3 k3 ns2 => ?_)
  show wpAny _ _ (execs _ _) _ _ _
  refine wpAny_execs_nil (hq h3 tk3 dx (fun b o hb e => k3 b o (fun z => ?_) (k2 b o hb (k b o e))) (k3 _ _ (Ne.symm dne) hx1) (Nat.le_of_lt (Nat.lt_of_lt_of_le hn0.lt dn)) dne ns2)
  rw [z] at e
  exact absurd (Nat.lt_trans (Heap.lt_size e) (Nat.lt_of_lt_of_le hn0.lt dn)) (Nat.lt_irrefl _)
theorem madeBrP {prog : Program} {w : World} {A : Around} {R : Result → Shared → Prop} {s : Shared} {K : Frag} {C fI : Addr} {B newId initId : String} {bmB : List Value} {v0 v1 : Value}
    (T : ClsBr K C fI B newId initId bmB) (X : K.In s.heap) (hlim : s.heap.NoLimit) (hroom : A.depth + 1 < recursionLimit)
    (hq : ∀ h' tk e d, Made s.heap h' e C d (fun (y : Str) => if y = "shown" then some v1 else if y = "index" then some v0 else none) → R (.ok (.ret (.ref e))) { s with heap := h', toks := tk }) :
    codeAny (model prog w) A (.call (.ref C) ⟨[v0, v1], []⟩) R s := by
  obtain ⟨hp, g, dr, tk, os⟩ := s
  have k : ∀ b o, hp.get? b = some o → ((hp.push (kdv_tup [v0, v1])).push (HandSPX.excO C hp.objs.size)).get? b = some o := fun b o e => Heap.get?_push_of_some _ (Heap.get?_push_of_some _ e)
  have hget : ((hp.push (kdv_tup [v0, v1])).push (HandSPX.excO C hp.objs.size)).get? (hp.objs.size + 1) = some (HandSPX.excO C hp.objs.size) := by heap_get
  refine madeBy T.toEC X T.iC T.tC (by rw [sizeLine_eq]; simp) ?_
  refine initBrP (s := ⟨(hp.push (kdv_tup [v0, v1])).push (HandSPX.excO C hp.objs.size), g, dr, tk, os⟩) T (X.keeps k) (hlim.keeps k) hget (noneOf X (Nat.le_succ _)) ?_ (fun h' tk' dx k' hx dn dne hns => ?_)
  · show A.depth + 1 < recursionLimit
    exact hroom
  · have old : ∀ b o, hp.get? b = some o → h'.get? b = some o := fun b o e => k' b o (Nat.ne_of_lt (Nat.lt_succ_of_lt (Heap.lt_size e))) (k b o e)
    have z : hp.objs.size ≤ dx := by
      have q := dn
      simp only [Heap.size_push] at q
      omega
    exact ⟨rfl, hq h' tk' (hp.objs.size + 1) dx ⟨old, Nat.le_succ _, ⟨_, hx⟩, z, dne, hns⟩⟩
theorem initBrK {prog : Program} {w : World} {A : Around} {R : Result → Shared → Prop} {s : Shared} {K : Frag} {C fI x t0 : Addr} {B newId initId : String} {bmB : List Value} {v0 v1 : Value}
    (T : ClsBr K C fI B newId initId bmB) (X : K.In s.heap) (hlim : s.heap.NoLimit) (hx : s.heap.get? x = some (HandSPX.excO C t0)) (hnx : K.lookup x = none) (hroom : A.depth < recursionLimit)
    (hq : ∀ h' tk dx, (∀ b o, b ≠ x → s.heap.get? b = some o → h'.get? b = some o) → h'.get? x = some { cls := .ref C, dict := some dx, data := .fields #[.ref t0, .none, .none, .none, .bool false, .none] } → s.heap.objs.size ≤ dx → dx ≠ x → h'.Ns1 dx (fun (y : Str) => if y = "shown" then some v1 else if y = "index" then some v0 else none) → R (.ok (.ret .none)) { s with heap := h', toks := tk }) :
    codeAny (model prog w) A (.call (.ref fI) ⟨[.ref x], [("index", v0), ("shown", v1)]⟩) R s := by
  obtain ⟨oc, od, doc, pm, kV, an, cdv, ct, osl, qual, p0, p1, p2, q00, q01, q02, q03, q10, q11, q12, q13, ho, hcd⟩ := T.fn
  refine Att.call_fn (binds := [("self", .ref x), ("index", v0), ("shown", v1)]) X hlim ho hcd hroom (PySem.BindsTo.of_eq (by first | rfl | with_unfolding_all rfl)) (by first | rfl | decide | with_unfolding_all rfl) (fun s1 IC => ?_) rfl rfl rfl
  obtain ⟨h1, tk1, rfl⟩ := IC.toInCall.same
  have k : ∀ b o, s.heap.get? b = some o → h1.get? b = some o := IC.toInCall.keep
  have hn0 := IC.toInCall.ns
  have hxL : s.heap.objs.size ≠ x := Nat.ne_of_gt (Heap.lt_size hx)
  have X0 : K.In h1 := X.keeps k
  have hx0 := k _ _ hx
  show wpAny _ _ (execs _ _) _ _ _
  refine wpAny_execs_cons (plainObj_wpAny_Assign_Attribute ?_)
  refine ldLoc (v := v0) hn0 (by first | rfl | with_unfolding_all rfl | kernel_rfl) (ldLoc (v := .ref x) hn0 (by first | rfl | with_unfolding_all rfl | kernel_rfl) ?_)
  refine set_plain X0 (ox := HandSPX.excO C t0) (od := none) ⟨hx0, rfl, rfl, trivial⟩ T.sa ?_
  refine storeNew T.toEC X0 hx0 T.n0 (fun h2 tk2 dx k2 dn dne hx1 ns1 => ?_)
  have X1 : K.In h2 := fun a o e => k2 a o (fun z => by rw [z, hnx] at e; cases e) (X0 a o e)
  have hn1 : h2.Ns s.heap.objs.size _ := let ⟨o, es, ep, e, r⟩ := hn0; ⟨o, es, ep, k2 _ _ hxL e, r⟩
  show wpAny _ _ (execs _ _) _ _ _
  refine wpAny_execs_cons (plainObj_wpAny_Assign_Attribute ?_)
  refine ldLoc (v := v1) hn1 (by first | rfl | with_unfolding_all rfl | kernel_rfl) (ldLoc (v := .ref x) hn1 (by first | rfl | with_unfolding_all rfl | kernel_rfl) ?_)
  have dnL : s.heap.objs.size ≠ dx := Nat.ne_of_lt (Nat.lt_of_lt_of_le hn0.lt dn)
  obtain ⟨oD1, hoD1, _⟩ := L2.lookIn_ns ns1
  refine set_plain X1 (ox := { cls := .ref C, dict := some dx, data := .fields #[.ref t0, .none, .none, .none, .bool false, .none] }) (od := some oD1) ⟨hx1, rfl, rfl, hoD1⟩ T.sa ?_
  refine storeMore T.toEC X1 hx1 ns1 (Within.cons "index" v0 Within.nil) (by show 1 ≤ 1000; decide) T.n1 (fun h3 tk3 k3 ns2 => ?_)
  show wpAny _ _ (execs _ _) _ _ _
  refine wpAny_execs_nil (hq h3 tk3 dx (fun b o hb e => k3 b o (fun z => ?_) (k2 b o hb (k b o e))) (k3 _ _ (Ne.symm dne) hx1) (Nat.le_of_lt (Nat.lt_of_lt_of_le hn0.lt dn)) dne ns2)
  rw [z] at e
  exact absurd (Nat.lt_trans (Heap.lt_size e) (Nat.lt_of_lt_of_le hn0.lt dn)) (Nat.lt_irrefl _)
theorem madeBrK {prog : Program} {w : World} {A : Around} {R : Result → Shared → Prop} {s : Shared} {K : Frag} {C fI : Addr} {B newId initId : String} {bmB : List Value} {v0 v1 : Value}
    (T : ClsBr K C fI B newId initId bmB) (X : K.In s.heap) (hlim : s.heap.NoLimit) (hroom : A.depth + 1 < recursionLimit)
    (hq : ∀ h' tk e d, Made s.heap h' e C d (fun (y : Str) => if y = "shown" then some v1 else if y = "index" then some v0 else none) → R (.ok (.ret (.ref e))) { s with heap := h', toks := tk }) :
    codeAny (model prog w) A (.call (.ref C) ⟨[], [("index", v0), ("shown", v1)]⟩) R s := by
  obtain ⟨hp, g, dr, tk, os⟩ := s
  have k : ∀ b o, hp.get? b = some o → ((hp.push (kdv_tup [])).push (HandSPX.excO C hp.objs.size)).get? b = some o := fun b o e => Heap.get?_push_of_some _ (Heap.get?_push_of_some _ e)
  have hget : ((hp.push (kdv_tup [])).push (HandSPX.excO C hp.objs.size)).get? (hp.objs.size + 1) = some (HandSPX.excO C hp.objs.size) := by heap_get
  refine madeBy T.toEC X T.iC T.tC (by rw [sizeLine_eq]; simp) ?_
  refine initBrK (s := ⟨(hp.push (kdv_tup [])).push (HandSPX.excO C hp.objs.size), g, dr, tk, os⟩) T (X.keeps k) (hlim.keeps k) hget (noneOf X (Nat.le_succ _)) ?_ (fun h' tk' dx k' hx dn dne hns => ?_)
  · show A.depth + 1 < recursionLimit
    exact hroom
  · have old : ∀ b o, hp.get? b = some o → h'.get? b = some o := fun b o e => k' b o (Nat.ne_of_lt (Nat.lt_succ_of_lt (Heap.lt_size e))) (k b o e)
    have z : hp.objs.size ≤ dx := by
      have q := dn
      simp only [Heap.size_push] at q
      omega
    exact ⟨rfl, hq h' tk' (hp.objs.size + 1) dx ⟨old, Nat.le_succ _, ⟨_, hx⟩, z, dne, hns⟩⟩
theorem initBrR {prog : Program} {w : World} {A : Around} {R : Result → Shared → Prop} {s : Shared} {K : Frag} {C fI x t0 : Addr} {B newId initId : String} {bmB : List Value} {v0 v1 : Value}
    (T : ClsBr K C fI B newId initId bmB) (X : K.In s.heap) (hlim : s.heap.NoLimit) (hx : s.heap.get? x = some (HandSPX.excO C t0)) (hnx : K.lookup x = none) (hroom : A.depth < recursionLimit)
    (hq : ∀ h' tk dx, (∀ b o, b ≠ x → s.heap.get? b = some o → h'.get? b = some o) → h'.get? x = some { cls := .ref C, dict := some dx, data := .fields #[.ref t0, .none, .none, .none, .bool false, .none] } → s.heap.objs.size ≤ dx → dx ≠ x → h'.Ns1 dx (fun (y : Str) => if y = "shown" then some v1 else if y = "index" then some v0 else none) → R (.ok (.ret .none)) { s with heap := h', toks := tk }) :
    codeAny (model prog w) A (.call (.ref fI) ⟨[.ref x], [("shown", v1), ("index", v0)]⟩) R s := by
  obtain ⟨oc, od, doc, pm, kV, an, cdv, ct, osl, qual, p0, p1, p2, q00, q01, q02, q03, q10, q11, q12, q13, ho, hcd⟩ := T.fn
  refine Att.call_fn (binds := [("self", .ref x), ("index", v0), ("shown", v1)]) X hlim ho hcd hroom (PySem.BindsTo.of_eq (by first | rfl | with_unfolding_all rfl)) (by first | rfl | decide | with_unfolding_all rfl) (fun s1 IC => ?_) rfl rfl rfl
  obtain ⟨h1, tk1, rfl⟩ := IC.toInCall.same
  have k : ∀ b o, s.heap.get? b = some o → h1.get? b = some o := IC.toInCall.keep
  have hn0 := IC.toInCall.ns
  have hxL : s.heap.objs.size ≠ x := Nat.ne_of_gt (Heap.lt_size hx)
  have X0 : K.In h1 := X.keeps k
  have hx0 := k _ _ hx
  show wpAny _ _ (execs _ _) _ _ _
  refine wpAny_execs_cons (plainObj_wpAny_Assign_Attribute ?_)
  refine ldLoc (v := v0) hn0 (by first | rfl | with_unfolding_all rfl | kernel_rfl) (ldLoc (v := .ref x) hn0 (by first | rfl | with_unfolding_all rfl | kernel_rfl) ?_)
  refine set_plain X0 (ox := HandSPX.excO C t0) (od := none) ⟨hx0, rfl, rfl, trivial⟩ T.sa ?_
  refine storeNew T.toEC X0 hx0 T.n0 (fun h2 tk2 dx k2 dn dne hx1 ns1 => ?_)
  have X1 : K.In h2 := fun a o e => k2 a o (fun z => by rw [z, hnx] at e; cases e) (X0 a o e)
  have hn1 : h2.Ns s.heap.objs.size _ := let ⟨o, es, ep, e, r⟩ := hn0; ⟨o, es, ep, k2 _ _ hxL e, r⟩
  show wpAny _ _ (execs _ _) _ _ _
  refine wpAny_execs_cons (plainObj_wpAny_Assign_Attribute ?_)
  refine ldLoc (v := v1) hn1 (by first | rfl | with_unfolding_all rfl | kernel_rfl) (ldLoc (v := .ref x) hn1 (by first | rfl | with_unfolding_all rfl | kernel_rfl) ?_)
  have dnL : s.heap.objs.size ≠ dx := Nat.ne_of_lt (Nat.lt_of_lt_of_le hn0.lt dn)
  obtain ⟨oD1, hoD1, _⟩ := L2.lookIn_ns ns1
  refine set_plain X1 (ox := { cls := .ref C, dict := some dx, data := .fields #[.ref t0, .none, .none, .none, .bool false, .none] }) (od := some oD1) ⟨hx1, rfl, rfl, hoD1⟩ T.sa ?_
  refine storeMore T.toEC X1 hx1 ns1 (Within.cons "index" v0 Within.nil) (by show 1 ≤ 1000; decide) T.n1 (fun h3 tk3 k3 ns2 => ?_)
  show wpAny _ _ (execs _ _) _ _ _
  refine wpAny_execs_nil (hq h3 tk3 dx (fun b o hb e => k3 b o (fun z => ?_) (k2 b o hb (k b o e))) (k3 _ _ (Ne.symm dne) hx1) (Nat.le_of_lt (Nat.lt_of_lt_of_le hn0.lt dn)) dne ns2)
  rw [z] at e
  exact absurd (Nat.lt_trans (Heap.lt_size e) (Nat.lt_of_lt_of_le hn0.lt dn)) (Nat.lt_irrefl _)
theorem madeBrR {prog : Program} {w : World} {A : Around} {R : Result → Shared → Prop} {s : Shared} {K : Frag} {C fI : Addr} {B newId initId : String} {bmB : List Value} {v0 v1 : Value}
    (T : ClsBr K C fI B newId initId bmB) (X : K.In s.heap) (hlim : s.heap.NoLimit) (hroom : A.depth + 1 < recursionLimit)
    (hq : ∀ h' tk e d, Made s.heap h' e C d (fun (y : Str) => if y = "shown" then some v1 else if y = "index" then some v0 else none) → R (.ok (.ret (.ref e))) { s with heap := h', toks := tk }) :
    codeAny (model prog w) A (.call (.ref C) ⟨[], [("shown", v1), ("index", v0)]⟩) R s := by
  obtain ⟨hp, g, dr, tk, os⟩ := s
  have k : ∀ b o, hp.get? b = some o → ((hp.push (kdv_tup [])).push (HandSPX.excO C hp.objs.size)).get? b = some o := fun b o e => Heap.get?_push_of_some _ (Heap.get?_push_of_some _ e)
  have hget : ((hp.push (kdv_tup [])).push (HandSPX.excO C hp.objs.size)).get? (hp.objs.size + 1) = some (HandSPX.excO C hp.objs.size) := by heap_get
  refine madeBy T.toEC X T.iC T.tC (by rw [sizeLine_eq]; simp) ?_
  refine initBrR (s := ⟨(hp.push (kdv_tup [])).push (HandSPX.excO C hp.objs.size), g, dr, tk, os⟩) T (X.keeps k) (hlim.keeps k) hget (noneOf X (Nat.le_succ _)) ?_ (fun h' tk' dx k' hx dn dne hns => ?_)
  · show A.depth + 1 < recursionLimit
    exact hroom
  · have old : ∀ b o, hp.get? b = some o → h'.get? b = some o := fun b o e => k' b o (Nat.ne_of_lt (Nat.lt_succ_of_lt (Heap.lt_size e))) (k b o e)
    have z : hp.objs.size ≤ dx := by
      have q := dn
      simp only [Heap.size_push] at q
      omega
    exact ⟨rfl, hq h' tk' (hp.objs.size + 1) dx ⟨old, Nat.le_succ _, ⟨_, hx⟩, z, dne, hns⟩⟩
def argsNo (p0 : Pos) : Arguments := { posonlyargs := [], args := [{ arg := "self", annotation := none, pos := p0 }], vararg := none, kwonlyargs := [], kw_defaults := [], kwarg := none, defaults := [] }
def bodyNo (q0 : Pos) : List Stmt := [.Pass q0]
def scopeNo : Scope := { kind := .function, names := [(PySem.Str.ofString "self", .local)], isGenerator := false, isCoroutine := false, more := [] }
/-- the class at C, its __init__ at fI -/
structure ClsNo (K : Frag) (C fI : Addr) (B newId initId : String) (bmB : List Value) : Prop extends EC K C B newId initId bmB where
  iC : findIn K (.ref C) "__init__" = some (some (.ref fI))
  tC : typeIn K (.ref fI) = some (.type "function")
  fn : ∃ (oc : Value) (od : Option Addr) (doc pm kV : Value) (an : Option Addr) (cdv ct : Value) (osl : Array (Option Value)) (qual : Str) (p0 q0 : Pos),
    K.lookup fI = some ⟨oc, od, .func (fnOf "__init__" qual (argsNo p0) (bodyNo q0) scopeNo .none kV doc pm an cdv ct), osl⟩ ∧ codeIn K cdv qual = true
theorem initNoP {prog : Program} {w : World} {A : Around} {R : Result → Shared → Prop} {s : Shared} {K : Frag} {C fI x t0 : Addr} {B newId initId : String} {bmB : List Value} 
    (T : ClsNo K C fI B newId initId bmB) (X : K.In s.heap) (hlim : s.heap.NoLimit) (hx : s.heap.get? x = some (HandSPX.excO C t0)) (hnx : K.lookup x = none) (hroom : A.depth < recursionLimit)
    (hq : ∀ h' tk, (∀ b o, s.heap.get? b = some o → h'.get? b = some o) → R (.ok (.ret .none)) { s with heap := h', toks := tk }) :
    codeAny (model prog w) A (.call (.ref fI) ⟨[.ref x], []⟩) R s := by
  obtain ⟨oc, od, doc, pm, kV, an, cdv, ct, osl, qual, p0, q0, ho, hcd⟩ := T.fn
  refine Att.call_fn (binds := [("self", .ref x)]) X hlim ho hcd hroom (PySem.BindsTo.of_eq (by first | rfl | with_unfolding_all rfl)) (by first | rfl | decide | with_unfolding_all rfl) (fun s1 IC => ?_) rfl rfl rfl
  obtain ⟨h1, tk1, rfl⟩ := IC.toInCall.same
  have k : ∀ b o, s.heap.get? b = some o → h1.get? b = some o := IC.toInCall.keep
  have hn0 := IC.toInCall.ns
  have hxL : s.heap.objs.size ≠ x := Nat.ne_of_gt (Heap.lt_size hx)
  have X0 : K.In h1 := X.keeps k
  have hx0 := k _ _ hx

  show wpAny _ _ (execs _ _) _ _ _
  refine wpAny_execs_cons (wpAny_Pass ?_)
  show wpAny _ _ (execs _ _) _ _ _
  exact wpAny_execs_nil (hq h1 tk1 k)
theorem madeNoP {prog : Program} {w : World} {A : Around} {R : Result → Shared → Prop} {s : Shared} {K : Frag} {C fI : Addr} {B newId initId : String} {bmB : List Value} 
    (T : ClsNo K C fI B newId initId bmB) (X : K.In s.heap) (hlim : s.heap.NoLimit) (hroom : A.depth + 1 < recursionLimit)
    (hq : ∀ h' tk e, (∀ b o, s.heap.get? b = some o → h'.get? b = some o) → s.heap.objs.size ≤ e → (∃ t1 : Addr, h'.get? e = some { cls := .ref C, data := .fields #[.ref t1, .none, .none, .none, .bool false, .none] }) → R (.ok (.ret (.ref e))) { s with heap := h', toks := tk }) :
    codeAny (model prog w) A (.call (.ref C) ⟨[], []⟩) R s := by
  obtain ⟨hp, g, dr, tk, os⟩ := s
  have k : ∀ b o, hp.get? b = some o → ((hp.push (kdv_tup [])).push (HandSPX.excO C hp.objs.size)).get? b = some o := fun b o e => Heap.get?_push_of_some _ (Heap.get?_push_of_some _ e)
  have hget : ((hp.push (kdv_tup [])).push (HandSPX.excO C hp.objs.size)).get? (hp.objs.size + 1) = some (HandSPX.excO C hp.objs.size) := by heap_get
  refine madeBy T.toEC X T.iC T.tC (by rw [sizeLine_eq]; simp) ?_
  refine initNoP (s := ⟨(hp.push (kdv_tup [])).push (HandSPX.excO C hp.objs.size), g, dr, tk, os⟩) T (X.keeps k) (hlim.keeps k) hget (noneOf X (Nat.le_succ _)) ?_ (fun h' tk' k' => ?_)
  · show A.depth + 1 < recursionLimit
    exact hroom
  · exact ⟨rfl, hq h' tk' (hp.objs.size + 1) (fun b o e => k' b o (k b o e)) (Nat.le_succ _) ⟨_, k' _ _ hget⟩⟩
end XC

set_option Elab.async false
set_option maxRecDepth 100000
set_option maxHeartbeats 4000000
/-! The same over the layer: readings of a class's call, of a field, of isinstance. -/
namespace L2.XK
open PySem PySem.Spec PyProof.Rows XC
section
variable {X : Cx} {pins : List (Addr × Obj)} {σ : St} {H1 : Hp} {s1 : Shared}

theorem laidExc {h' : Heap} {e C d : Addr} {m : Str → Option Value} {fs : List (Str × V)} {tk' : Nat} (I1 : Inv X pins σ H1 s1)
    (M : Made s1.heap h' e C d m) (r : ∀ f, RelO (fs.lookup f) (m f)) :
    Inv X pins σ (upd (upd H1 d (.xd fs)) e (exo e C (some d))) { s1 with heap := h', toks := tk' } ∧ H1 e = none ∧ H1 d = none := by
  obtain ⟨t1, hoe⟩ := M.obj
  have he : H1 e = none := I1.hok.fresh M.new
  have hd : H1 d = none := I1.hok.fresh M.dbig
  obtain ⟨G, g1, g2⟩ := L2.restrict h' fun b => decide (b ≠ e)
  have gk : ∀ b, b ≠ e → G.get? b = h'.get? b := fun b hb => g1 b (decide_eq_true hb)
  have ge : G.get? e = none := g2 e (by simp)
  have old : ∀ b o, s1.heap.get? b = some o → G.get? b = some o := fun b o q => by
    refine (gk b ?_).trans (M.keep b o q)
    exact Nat.ne_of_lt (Nat.lt_of_lt_of_le (Heap.lt_size q) M.new)
  have ob : ObjOk X.prog X.w (upd H1 d (.xd fs)) G d (.xd fs) :=
    ⟨m, M.ns.at (fun o q => (gk d M.dne).trans q), r⟩
  have J : Inv X pins σ (upd H1 d (.xd fs)) { s1 with heap := G, toks := tk' } := I1.laid (t' := tk') old M.dbig ob
  have he2 : (upd H1 d (.xd fs)) e = none := by
    rw [upd_ne (Ne.symm M.dne)]
    exact he
  refine ⟨?_, he, hd⟩
  refine Inv.laidN (s := { s1 with heap := G, toks := tk' }) (h' := h') (t' := tk') J (fun b u q => ?_) ge he2 (exo_ok hoe)
  have hb : b ≠ e := fun z => by
    have q' : G.get? b = some u := q
    rw [z, ge] at q'
    cases q'
  exact (gk b hb).symm.trans q

/-- C(..): vs the values in the order written -/
def tNew (C : Addr) (fsOf : List V → Option (List (Str × V))) (ta : TA) : TE := fun σ H Q => ta σ H fun vs H1 => ∃ fs, fsOf vs = some fs ∧
  ∀ a d, H1 a = none → H1 d = none → d ≠ a → Q (.ref a) (upd (upd H1 d (.xd fs)) a (exo a C (some d)))

/-- what a class's maker gives: n values us, by position and behind the names ks -/
def Maker (X : Cx) (C : Addr) (n : Nat) (ks : List Str) (fsOf : List V → Option (List (Str × V))) : Prop :=
  ∀ (s1 : Shared) (vs : List V) (us ws : List Value) (fs : List (Str × V)) (R : Result → Shared → Prop), X.K.In s1.heap → s1.heap.NoLimit →
    us.length = n → ws.length = ks.length → Vals vs (us ++ ws) → fsOf vs = some fs →
    (∀ h' tk e d m, Made s1.heap h' e C d m → (∀ f, RelO (fs.lookup f) (m f)) → R (.ok (.ret (.ref e))) { s1 with heap := h', toks := tk }) →
    codeAny (model X.prog X.w) X.A (.call (.ref C) ⟨us, ks.zip ws⟩) R s1

theorem pe_newP {C : Addr} {n : Nat} {x : Str} {p pos : Pos} {e : Expr} {es : List Expr} {ta : TA} {fsOf : List V → Option (List (Str × V))}
    (mk : Maker X C n [] fsOf) (hl : ∀ vs fs, fsOf vs = some fs → vs.length = n) (kC : PySem.W.keepIn X.K (.ref C) = true) (gC : X.mg x = some (.ref C)) (ha : PA X (e :: es) ta) (hg : Gl X x := by rfl)
    (hdb : (x == ("__debug__" : Str)) = false := by decide)
    (he : starEach (e :: es) X.env = (false, eval e X.env) :: starEach es X.env := by rfl) (hpl : (backTo pos (starEach es X.env)).any (·.1) = false := by rfl) :
    PE X (.Call (.Name x p) (e :: es) [] pos) (tNew C fsOf ta) := by
  refine ⟨fun pins s σ H Q I h => ?_⟩
  refine wpAny_Call_Name_kw (ld_glob I hg gC ?_ hdb)
  refine PySem.W.callWith_K (h₀ := X.base) I.ok.mod.kin kC (thn (ha.run pos pins s σ H _ I h) fun us s1 hh => ?_) he hpl
  obtain ⟨vs, H1, I1, r1, fs, ef, q1⟩ := hh
  refine ⟨I1.kIn, ?_⟩
  show wpAny _ _ (call (.ref C) us) _ _ _
  refine wpAny_call (mk s1 vs us [] fs _ I1.kIn I1.nolimit ?_ rfl (by rw [List.append_nil]; exact r1) ef fun h' tk e d m M r => ?_)
  · rw [← r1.length]
    exact hl vs fs ef
  · obtain ⟨J, he, hd⟩ := laidExc (tk' := tk) I1 M r
    exact ⟨.ref e, _, J, rfl, q1 e d he hd M.dne⟩

theorem pe_newK {C : Addr} {ks : List Str} {x : Str} {p pos : Pos} {kws : List Keyword} {tk : TA} {fsOf : List V → Option (List (Str × V))}
    (mk : Maker X C 0 ks fsOf) (hl : ∀ vs fs, fsOf vs = some fs → vs.length = ks.length) (kC : PySem.W.keepIn X.K (.ref C) = true) (gC : X.mg x = some (.ref C)) (hkw : PK X kws tk) (hg : Gl X x := by rfl)
    (hdb : (x == ("__debug__" : Str)) = false := by decide)
    (hall : (backToKw pos (keywordEach kws X.env)).all (·.1.isSome) = true := by rfl) (hks : (backToKw pos (keywordEach kws X.env)).filterMap (·.1) = ks := by rfl)
    (hpl : ((backTo pos (starEach [] X.env)).any (·.1) || (backToKw pos (keywordEach kws X.env)).any (·.1.isNone)) = false := by rfl) :
    PE X (.Call (.Name x p) [] kws pos) (tNew C fsOf tk) := by
  refine ⟨fun pins s σ H Q I h => ?_⟩
  refine wpAny_Call_Name_kw (ld_glob I hg gC ?_ hdb)
  refine PySem.W.callWith_KW0 (h₀ := X.base) I.ok.mod.kin kC hall ?_ hpl
  refine thn (hkw.run pos pins s σ H _ I h) fun ws s1 hh => ?_
  obtain ⟨vs, H1, I1, r1, fs, ef, q1⟩ := hh
  refine ⟨I1.kIn, ?_⟩
  rw [hks]
  show wpAny _ _ (call (.ref C) [] (ks.zip ws)) _ _ _
  refine wpAny_call (mk s1 vs [] ws fs _ I1.kIn I1.nolimit rfl ?_ r1 ef fun h' tk e d m M r => ?_)
  · rw [← r1.length]
    exact hl vs fs ef
  · obtain ⟨J, he, hd⟩ := laidExc (tk' := tk) I1 M r
    exact ⟨.ref e, _, J, rfl, q1 e d he hd M.dne⟩

/-- C() of a class whose __init__ stores nothing -/
theorem pe_new0 {C fI : Addr} {B newId initId : String} {bmB : List Value} {x : Str} {p pos : Pos} {k : Nat}
    (T : ClsNo X.K C fI B newId initId bmB) (hr : Room k X.A) (gC : X.mg x = some (.ref C)) (hg : Gl X x := by rfl) (hdb : (x == ("__debug__" : Str)) = false := by decide) :
    PE X (.Call (.Name x p) [] [] pos) (fun σ H Q => ∀ a, H a = none → Q (.ref a) (upd H a (exo a C none))) := by
  refine ⟨fun pins s σ H Q I h => ?_⟩
  refine wpAny_Call_Name_kw (ld_glob I hg gC ?_ hdb)
  refine PySem.W.callWith_K0 I.kIn T.kC ?_
  show wpAny _ _ (call (.ref C) []) _ _ _
  refine wpAny_call (madeNoP T I.kIn I.nolimit (by have := hr.dp; omega) fun h' tk e k hn ho => ?_)
  obtain ⟨t1, ho⟩ := ho
  exact ⟨.ref e, _, I.laid (t' := tk) k hn (exo_ok ho), rfl, h e (I.hok.fresh hn)⟩

/-- e.f, e an exception -/
def tXFld (K : PySem.W.Frag) (f : Str) (te : TE) : TE := fun σ H Q => te σ H fun x H1 => ∃ (a C d : Addr) (fs : List (Str × V)) (v : V), x = .ref a ∧ H1 a = some (exo a C (some d)) ∧ H1 d = some (.xd fs) ∧ fs.lookup f = some v ∧
  (∃ B newId initId bmB, EC K C B newId initId bmB) ∧ PySem.W.findIn K (.ref C) f = some none ∧ Q v H1
theorem pe_xfld {e : Expr} {te : TE} {f : Str} {pos : Pos} (he : PE X e te) (hb : attributeBase e f X.env (eval e X.env) = eval e X.env := by rfl) :
    PE X (.Attribute e f pos) (tXFld X.K f te) := by
  refine ⟨fun pins s σ H Q I h => ?_⟩
  refine attr_of hb (thn (he.run pins s σ H _ I h) fun u s1 hh => ?_)
  obtain ⟨x, H1, I1, rx, a, C, d, fs, v, ex, ea, ed, el, ⟨B, newId, initId, bmB, T⟩, nf, q⟩ := hh
  subst ex
  obtain rfl : u = Value.ref a := rx
  obtain ⟨t1, ha⟩ := exo_at I1.hok ea
  obtain ⟨mA, hns, hr⟩ := (show ObjOk X.prog X.w H1 s1.heap d (.xd fs) from I1.hok d _ ed)
  obtain ⟨od, ho, hl⟩ := lookIn_ns hns
  obtain ⟨u, hu, ru⟩ := RelO.some_of (v := v) (o := mA f) (by rw [← el]; exact hr f)
  have J : PySem.W.InstAt s1.heap a _ C (some od) := ⟨ha, rfl, rfl, ho⟩
  exact HandSPX.exc_get I1.kIn J T.ga T.gg T.exC (PySem.W.findObj_own T.hd nf rfl (by rw [hl, hu])) (handed_of ru) ⟨v, H1, I1.tok _, ru, q⟩

/-- what isinstance asks of the class -/
structure XIs (K : PySem.W.Frag) (C : Addr) : Prop where
  cl : (PySem.W.clsIn K C).isSome = true
  ga : PySem.W.findIn K (.ref C) "__getattribute__" = some (some (.builtin "BaseException.__getattribute__"))
  gg : PySem.W.findIn K (.ref C) "__getattr__" = some none
  exC : PySem.W.subIn K (.ref C) (.type "BaseException") = some true
  cC : PySem.W.findIn K (.ref C) "__class__" = some (some (.builtin "object.__class__"))
  hn : PySem.W.specialIn K (.builtin "object.__class__") "__get__" = some (some (.builtin "getset_descriptor.__get__"))
  tk : PySem.W.takesIn K (.builtin "object.__class__") = some true
  mo : PySem.W.mroIn K C (.type "object") = some true
/-- isinstance(e, T), e an exception that was made, T one class -/
def rIsX (K : PySem.W.Frag) : List V → Hp → VK → Prop := fun xs H Q => ∃ (a C : Addr) (d : Option Addr) (c : V) (u : Value) (b : Bool), xs = [.ref a, c] ∧ H a = some (exo a C d) ∧
  (∀ z, d = some z → ∃ fs, H z = some (.xd fs)) ∧ XIs K C ∧ ClsV c u ∧ PySem.W.kitOne K (.ref C) u = some b ∧ Q (.bl b) H
theorem call_isX : CallR X (.builtin "isinstance") (rIsX X.K) := by
  intro pins s σ H xs us Q I r h
  obtain ⟨a, C, d, c, u, b, rfl, ea, ed, T, k, e, q⟩ := h
  obtain ⟨u1, u2, rfl, r1, r2⟩ := vals2 r
  have e2 := k.eq r2
  subst e2
  cases (show u1 = Value.ref a from r1)
  obtain ⟨t1, ha⟩ := exo_at I.hok ea
  cases d with
  | none =>
    have J : PySem.W.InstAt s.heap a _ C none := ⟨ha, rfl, rfl, trivial⟩
    exact PySem.W.kia_one (PySem.W.kitx_exc T.cl T.ga T.gg T.exC T.cC T.hn T.tk T.mo) I.kIn J e (fun z => nomatch z) fun tk => ⟨.bl b, H, I.tok tk, rfl, q⟩
  | some d =>
    obtain ⟨fs, ez⟩ := ed d rfl
    obtain ⟨mA, hns, hr⟩ := (show ObjOk X.prog X.w H s.heap d (.xd fs) from I.hok d _ ez)
    obtain ⟨od, ho, hl⟩ := lookIn_ns hns
    have J : PySem.W.InstAt s.heap a _ C (some od) := ⟨ha, rfl, rfl, ho⟩
    exact PySem.W.kia_one (PySem.W.kitx_exc T.cl T.ga T.gg T.exC T.cC T.hn T.tk T.mo) I.kIn J e (fun z => nomatch z) fun tk => ⟨.bl b, H, I.tok tk, rfl, q⟩
end
end L2.XK

set_option Elab.async false
set_option maxRecDepth 100000
set_option maxHeartbeats 4000000
/-! A def's promise where nothing of the machine's own guards is under way (repr asks that), down to the law's end; repr of data. -/
namespace L2.XK
open PySem PySem.Spec PyProof.Rows XC

/-- the module table's object is part of the base -/
def Sys (base : Heap) : Prop := ∃ o, base.get? sysModules = some o

/-- FnOk, for calls with no guard under way -/
structure FnG (P : Program) (w : World) (K : PySem.W.Frag) (mg : Str → Option Value) (base : Heap) (k : Nat) (f : Addr) (fd : FuncData)
    (ps : List Str) (sp : Sp) : Prop where
  len : ∀ vs H Q E, sp vs H Q E → vs.length = ps.length
  run : ∀ (A : Around) (outer : List Env) (s : Shared) (H : Hp) (args : Args) (us : List Value) (vs : List V) (Q : VK) (E : XK), Room k A →
    A.guards = some [] → Env0 P w K mg base A outer s H → BindsTo s fd args (ps.zip us) → Vals vs us → sp vs H Q E →
    codeAny (model P w) A (.call (.ref f) args) (CR CX0 outer P w H s Q E) s
section
variable {P : Program} {w : World} {K : PySem.W.Frag} {mg : Str → Option Value} {base : Heap}
theorem Fun.okG {x qual : Str} {st : Stmt} {f : Addr} {fd : FuncData} {N ps : List Str} {k : Nat} {sp : Sp} (F : Fun K x qual st f fd)
    (S : FnScope N ps (defScope st)) (len : ∀ vs H Q E, sp vs H Q E → vs.length = ps.length)
    (hbody : ∀ (cdv : Value) (A : Around) (outer : List Env) (s : Shared) (H : Hp) (vs : List V) (Q : VK) (E : XK),
      Room k (A.deeper (envOfC qual (defScope st) s.heap.objs.size f cdv)) →
      (A.deeper (envOfC qual (defScope st) s.heap.objs.size f cdv)).guards = some [] → sp vs H Q E →
      ∃ t, PSs (cxOf CX0 P w K mg base N qual (defScope st) f cdv A outer s H E).nox (defBody st) t ∧
        t { nx := fun _ H' => Q .non H', rt := Q } (start N vs) H) : FnG P w K mg base (k + 1) f fd ps sp := by
  obtain ⟨oc, od, kV, doc, pm, an, cdv, ct, osl, rfl, lk, hcd⟩ := F.ex
  refine ⟨len, fun A outer s H args us vs Q E hr hg e0 hb r hsp => ?_⟩
  have hl := len _ _ _ _ hsp
  have keep : ∀ b o, base.get? b = some o → s.heap.get? b = some o := fun b o e => (e0.bs b o e).1
  have KX : K.In s.heap := e0.mod.kin.keeps keep
  have lim : s.heap.NoLimit := e0.mod.nolimit.keeps keep
  have kinds : ∀ y ∈ ps.zip us, (defScope st).names.lookup y.1 = some .local ∨
      ((defScope st).names.lookup y.1 = some .cell ∧ ((cellsFrom (s.heap.objs.size + 1) (defScope st).names []).lookup y.1).isSome = true) := by
    rintro ⟨n, v⟩ hy
    rcases S.par n (List.of_mem_zip hy).1 with q | q
    · exact .inl q
    · exact .inr ⟨q, PySem.W.cellsFrom_some _ _ _ (.inl q)⟩
  refine codeAny_call_function hr.depth (KX _ _ lk) rfl S.co S.gen rfl (PySem.W.codeRec_of KX hcd) (hb _ _ _ _ ?_)
  refine wpAny_newFunctionEnv_cells S.kind kinds fun env he s1 x => ?_
  subst he
  refine ⟨lim.keeps x.toInCall.keep, codeAny_func ?_⟩
  obtain ⟨t, ht, hq⟩ := hbody cdv A outer s H vs Q E (hr.deeper _) hg hsp
  have I := inv_start (CX := CX0) (E := E) S hr.hd e0 hl r x
  refine wpAny_mono (ht.nox.run [] s1 (start N vs) H _ I hq) (fun fl s' hs => ?_) fun e s' hs => hs
  cases fl with
  | ret u =>
    obtain ⟨v, σ', H', J, rv, q⟩ := hs
    exact ⟨v, H', J.os, J.bare, J.base, J.hok, rv, q⟩
  | next =>
    obtain ⟨σ', H', J, q⟩ := hs
    exact ⟨V.non, H', J.os, J.bare, J.base, J.hok, rfl, q⟩
  | brk =>
    obtain ⟨_, _, _, q⟩ := hs
    exact q.elim
  | cont =>
    obtain ⟨_, _, _, q⟩ := hs
    exact q.elim
end

section
variable {X : Cx} {k : Nat} {f : Addr} {fd : FuncData} {ps : List Str} {sp : Sp} {x : Str} {p pos : Pos} {e : Expr} {es : List Expr} {t : TA}
theorem pe_callG (F : FnG X.prog X.w X.K X.mg X.base k f fd ps sp) (hr : Room k X.A) (hgd : X.A.guards = some []) (hg : Gl X x)
    (hm : X.mg x = some (.ref f)) (hk : PySem.W.keepIn X.K (.ref f) = true) (hb : Binds X.K fd ps [])
    (ha : PA X (e :: es) t) (hdb : (x == ("__debug__" : Str)) = false := by decide)
    (he : starEach (e :: es) X.env = (false, eval e X.env) :: starEach es X.env := by rfl)
    (hpl : (backTo pos (starEach es X.env)).any (·.1) = false := by rfl) :
    PE X (.Call (.Name x p) (e :: es) [] pos) (tCall sp [] E0 t) := by
  refine ⟨fun pins s σ H Q I h => ?_⟩
  refine wpAny_Call_Name_kw (ld_glob I hg hm ?_ hdb)
  refine PySem.W.callWith_K (h₀ := X.base) I.ok.mod.kin hk ?_ he hpl
  refine thn (ha.run pos pins s σ H _ I h) fun us s1 ⟨vs, H1, I1, r, q0⟩ => ⟨I1.kIn, ?_⟩
  have q : sp (vs ++ []) H1 Q E0 := q0
  rw [List.append_nil] at q
  have hl : us.length = ps.length := by
    rw [← r.length]
    exact F.len _ _ _ _ q
  have hbb := hb s1 us I1.kIn (by rw [List.append_nil]; exact hl)
  rw [List.append_nil] at hbb
  refine wpAny_call (codeAny_mono (F.run X.A X.stack s1 H1 ⟨us, []⟩ us vs Q E0 hr hgd I1.env0 hbb r q) fun r s' hq => ?_)
  cases r with
  | error e => exact hq.elim
  | ok fl =>
    cases fl with
    | ret u => exact I1.after hq
    | next => exact hq.elim
    | brk => exact hq.elim
    | cont => exact hq.elim
theorem pe_callG0 (F : FnG X.prog X.w X.K X.mg X.base k f fd ps sp) (hr : Room k X.A) (hgd : X.A.guards = some []) (hg : Gl X x)
    (hm : X.mg x = some (.ref f)) (hk : PySem.W.keepIn X.K (.ref f) = true) (hb : Binds X.K fd ps [])
    (hdb : (x == ("__debug__" : Str)) = false := by decide) : PE X (.Call (.Name x p) [] [] pos) (tCall sp [] E0 tNil) := by
  refine ⟨fun pins s σ H Q I h => ?_⟩
  refine wpAny_Call_Name_kw (ld_glob I hg hm ?_ hdb)
  refine PySem.W.callWith_K0 I.kIn hk ?_
  have q : sp [] H Q E0 := h
  have hbb := hb s [] I.kIn (by simpa using F.len _ _ _ _ q)
  refine wpAny_call (codeAny_mono (F.run X.A X.stack s H ⟨[], []⟩ [] [] Q E0 hr hgd I.env0 hbb .nil q) fun r s' hq => ?_)
  cases r with
  | error e => exact hq.elim
  | ok fl =>
    cases fl with
    | ret u => exact I.after hq
    | next => exact hq.elim
    | brk => exact hq.elim
    | cont => exact hq.elim
end

/-- the law's own call: nothing but the script is tracked, the module table stands in the base -/
theorem lawG {P : Program} {w : World} {K : PySem.W.Frag} {mg mb : Str → Option Value} {k : Nat} {fa a : Addr} {fd : FuncData} {x : Str} {sp : Sp}
    {s1 : Shared} {vs : List Value} {ns : List Int}
    (KX : K.In s1.heap) (hns : s1.heap.Ns mainGlobals mg) (hb : s1.heap.Ns builtinsNs mb) (hbb : ∀ x : Str, x ≠ "__name__" → mb x = bootBuiltins x)
    (hlim : s1.heap.NoLimit) (hsy : ∃ mm, s1.heap.Ns sysModules mm) (hg : s1.gens = #[])
    (ha : s1.heap.get? a = some { cls := .type "list", data := .seq vs.toArray }) (hi : IntsAre vs ns) (hl : ns.length ≤ sizeLine) (hr : Room k callerA)
    (F : ∀ base : Heap, K.In base → base.Ns mainGlobals mg → Sys base → FnG P w K mg base k fa fd [x] sp)
    (hbind : ∀ (s : Shared) (u : Value), BindsTo s fd ⟨[u], []⟩ [(x, u)])
    (hsp : ∀ H : Hp, Only H → SqL K H a (ns.map V.int) → sp [.ref a] H (fun v _ => v = .bl true) fun _ _ _ => False) :
    codeAny (model P w) callerA (.call (.ref fa) ⟨[.ref a], []⟩)
      (fun r s' => r = .ok (.ret (.bool true)) ∧ OldK s1.heap s'.heap ∧ s'.os = s1.os ∧ AllBare s'.gens) s1 := by
  have rv := vals_ints hi
  have lenV := hi.length
  have go : ∀ H : Hp, Only H → SqL K H a (ns.map V.int) → HOk P w H s1.heap → (∀ b, H b ≠ none → b = a ∧ K.lookup a = none) →
      codeAny (model P w) callerA (.call (.ref fa) ⟨[.ref a], []⟩)
        (fun r s' => r = .ok (.ret (.bool true)) ∧ OldK s1.heap s'.heap ∧ s'.os = s1.os ∧ AllBare s'.gens) s1 := by
    intro H hO hS hok only
    have free : ∀ {b : Addr}, b ≠ a → H b = none := fun {b} hb => by
      cases q : H b with
      | none => rfl
      | some u => exact absurd (only b (by rw [q]; simp)).1 hb
    have notA : ∀ {b : Addr} {o : Obj} {es : Array DictEntry} {ep : Nat}, s1.heap.get? b = some o → o.data = .dict es ep → b ≠ a := by
      rintro b o es ep e d rfl
      rw [ha] at e
      cases e
      cases (show Data.seq vs.toArray _ = Data.dict es ep from d)
    have nsB : ∀ {b : Addr} {m : Str → Option Value}, s1.heap.Ns b m → (hidT s1.heap H).Ns b m := by
      rintro b m ⟨o, es, ep, e, d, r⟩
      exact ⟨o, es, ep, hidT_get e (free (notA e d)), d, r⟩
    have kB : K.In (hidT s1.heap H) := fun b o e => hidT_get (KX b o e) (by
      cases q : H b with
      | none => rfl
      | some u =>
        obtain ⟨rfl, z⟩ := only b (by rw [q]; simp)
        rw [z] at e
        cases e)
    have hM : Mod K mg (hidT s1.heap H) := by
      refine ⟨kB, nsB hns, ⟨mb, nsB hb, hbb⟩, ?_⟩
      obtain ⟨mc, h1, h2⟩ := hlim
      exact ⟨mc, nsB h1, h2⟩
    have hS0 : Sys (hidT s1.heap H) := by
      obtain ⟨mm, q⟩ := hsy
      obtain ⟨o, _, _, e, _⟩ := nsB q
      exact ⟨o, e⟩
    have e0 : Env0 P w K mg (hidT s1.heap H) callerA [] s1 H := by
      refine ⟨rfl, hM, fun b o e => of_hidT e, Nat.le_of_eq (hidT_size _ _), trivial, ?_, hok, .of_eq hg⟩
      intro b hb
      exact absurd (show b ∈ ([] : List Addr) from hb) (by simp)
    refine codeAny_mono ((F _ kB (nsB hns) hS0).run callerA [] s1 H ⟨[.ref a], []⟩ [.ref a] [.ref a] _ _ hr rfl e0 (hbind s1 (.ref a)) (.cons rfl .nil) (hsp H hO hS)) fun r s' h => ?_
    cases r with
    | error e => exact h.elim
    | ok fl =>
      cases fl with
      | next => exact h.elim
      | brk => exact h.elim
      | cont => exact h.elim
      | ret u =>
        obtain ⟨v, H', os, bare, un, hok', r', q⟩ := h
        have q' : v = .bl true := q
        subst q'
        obtain rfl : u = Value.bool true := r'
        refine ⟨rfl, OldK.of_keep fun b o e => ?_, os, bare⟩
        by_cases hba : H b = none
        · exact un.keep b o e hba (by intro z; exact absurd (show b ∈ ([] : List Addr) from z) (by simp)) (by simp)
        · rcases hO b with z | ⟨ob, xs, z⟩
          · exact absurd z hba
          · obtain ⟨e1, _⟩ := hok b _ z
            obtain ⟨e2, _⟩ := hok' b _ (un.frzs b ob _ z)
            exact e2.trans (e1.symm.trans e)
  cases hk : K.lookup a with
  | some o =>
    have e := KX a o hk
    rw [ha] at e
    cases e
    have hS : SqL K (fun _ => none) a (ns.map V.int) :=
      .inr ⟨_, vs.toArray, _, hk, rfl, rfl, rfl, by rw [List.size_toArray, lenV]; exact hl, by simpa using rv⟩
    exact go (fun _ => none) (fun _ => .inl rfl) hS (fun b u z => nomatch z) fun b z => absurd rfl z
  | none =>
    have at_ : ∀ b : Addr, b = a ∨ (fun b => if b = a then some (HO.frz { cls := .type "list", data := .seq vs.toArray } (.lst (ns.map V.int))) else none) b = none := fun b => by
      by_cases hb : b = a
      · exact .inl hb
      · exact .inr (if_neg hb)
    refine go (fun b => if b = a then some (.frz { cls := .type "list", data := .seq vs.toArray } (.lst (ns.map V.int))) else none) (fun b => ?_) (.inl (.inr ⟨_, if_pos rfl⟩)) (fun b u z => ?_) fun b z => ?_
    · rcases at_ b with rfl | q
      · exact .inr ⟨_, _, if_pos rfl⟩
      · exact .inl q
    · rcases at_ b with rfl | q
      · have z' := (if_pos rfl).symm.trans z
        cases z'
        exact ⟨ha, by rw [List.length_map]; exact hl, vs, _, rv, ha⟩
      · rw [q] at z
        cases z
    · rcases at_ b with rfl | q
      · exact ⟨rfl, hk⟩
      · exact absurd q z

/-- the goal that k_head leaves -/
theorem walkG {l : PySem.W.OpenLaw} {n k : Nat} {q : Program} {loose : List Str} {XP : (Str → Option Value) → Heap → Prop} {YP : World → Heap → Prop} {d : DefRec}
    {K : Params → PySem.W.Frag} {sp : World → Sp} {x : Str}
    (hn : l.most = some n) (hn2 : n ≤ sizeLine) (hdf : d.params.defaults = []) (hr : Room k callerA) (himp : importsNone q = true)
    (hY : ∀ (w : World) (h : Heap), YP w h → (K w.params).In h)
    (F : ∀ (w : World) (mg : Str → Option Value) (fa : Addr) (h : Heap), (K w.params).In h → h.Ns mainGlobals mg → mg d.name = some (.ref fa) →
      ∃ fd : FuncData, (∀ (s : Shared) (u : Value), BindsTo s fd ⟨[u], []⟩ [(x, u)]) ∧
        ∀ base : Heap, (K w.params).In base → base.Ns mainGlobals mg → Sys base → FnG l.prog w (K w.params) mg base k fa fd [x] (sp w))
    (hsp : ∀ (w : World) (H : Hp) (a : Addr) (ns : List Int), ns.length ≤ n → (∀ m ∈ ns, Builtin.Int.intBits m ≤ 1048576) → Only H →
      SqL (K w.params) H a (ns.map V.int) → sp w [.ref a] H (fun v _ => v = .bl true) fun _ _ _ => False) :
    PySem.W.WalkO q loose XP YP l.row.toRowW d [] (fun f vs => PySem.call f vs) := by
  refine Att.attach_callB hn hdf fun w s0 s1 mg mb fa o pm cd doc a vs ns G Y ho hd hcd hmg hobj hints hlen hbits hg => ?_
  have KX := hY w _ Y
  obtain ⟨fd, hb, hF⟩ := F w mg fa _ KX G.T.g hmg
  obtain ⟨mm, hmm, _⟩ := (G.T.seer himp).mods
  exact lawG KX G.T.g G.T.b G.T.builtins G.T.nolimit ⟨mm, hmm⟩ hg hobj hints (Nat.le_trans hlen hn2) hr hF hb fun H hO hS => hsp w H a ns hlen hbits hO hS
end L2.XK

set_option Elab.async false
set_option maxRecDepth 100000
set_option maxHeartbeats 4000000
/-! repr of data (dicts too) that stands in the tracked heap. -/
namespace L2.XK
open PySem PySem.Spec PyProof.Rows XC
mutual
/-- v stands for the data d, all of it tracked -/
inductive Dx (H : Hp) : V → PyData → Prop
  | non : Dx H .non .none
  | bl (b : Bool) : Dx H (.bl b) (.bool b)
  | int (i : Int) : Dx H (.int i) (.int i)
  | str (x : Str) : Dx H (.str x) (.str x)
  | lst {a : Addr} {xs : List V} {ds : List PyData} : H a = some (.lst xs) → DxAll H xs ds → Dx H (.ref a) (.list ds)
  | tup {a : Addr} {xs : List V} {ds : List PyData} : H a = some (.tup xs) → DxAll H xs ds → Dx H (.ref a) (.tuple ds)
  | dic {a : Addr} {kvs : List (Key × V)} {ds : List (PyData × PyData)} : H a = some (.dK kvs) → DxAll H (kvs.map fun p => kV p.1) (ds.map (·.1)) →
      DxAll H (kvs.map (·.2)) (ds.map (·.2)) → Dx H (.ref a) (.dict ds)
inductive DxAll (H : Hp) : List V → List PyData → Prop
  | nil : DxAll H [] []
  | cons {v : V} {vs : List V} {d : PyData} {ds : List PyData} : Dx H v d → DxAll H vs ds → DxAll H (v :: vs) (d :: ds)
end
mutual
theorem Dx.same {H H' : Hp} (k : ∀ b o, H b = some o → H' b = some o) : ∀ {v : V} {d : PyData}, Dx H v d → Dx H' v d
  | _, _, .non => .non
  | _, _, .bl b => .bl b
  | _, _, .int i => .int i
  | _, _, .str x => .str x
  | _, _, .lst h q => .lst (k _ _ h) (DxAll.same k q)
  | _, _, .tup h q => .tup (k _ _ h) (DxAll.same k q)
  | _, _, .dic h p q => .dic (k _ _ h) (DxAll.same k p) (DxAll.same k q)
theorem DxAll.same {H H' : Hp} (k : ∀ b o, H b = some o → H' b = some o) : ∀ {vs : List V} {ds : List PyData}, DxAll H vs ds → DxAll H' vs ds
  | _, _, .nil => .nil
  | _, _, .cons p q => .cons (Dx.same k p) (DxAll.same k q)
end
theorem DxAll.append {H : Hp} : ∀ {vs ws : List V} {ds es : List PyData}, DxAll H vs ds → DxAll H ws es → DxAll H (vs ++ ws) (ds ++ es)
  | _, _, _, _, .nil, q => q
  | _, _, _, _, .cons a b, q => .cons a (DxAll.append b q)
theorem DxAll.rep {H : Hp} {v : V} {d : PyData} (h : Dx H v d) : ∀ n, DxAll H (List.replicate n v) (List.replicate n d)
  | 0 => .nil
  | n + 1 => .cons h (DxAll.rep h n)

theorem kV_of {P : Program} {w : World} {k : Key} {v : Value} (h : (mixKind P w).is k v = true) : RelV (kV k) v := by
  rcases keyIs_shape h with ⟨i, t, rfl, rfl⟩ | ⟨x, t, rfl, rfl⟩
  · exact ⟨t, rfl⟩
  · exact ⟨t, rfl⟩
theorem kvKeys {P : Program} {w : World} : ∀ {kvs : List (Key × V)} {vs : List (Key × Value)} {es : List DictEntry}, KV kvs vs → Pairs (mixKind P w) es vs →
    Vals (kvs.map fun p => kV p.1) (es.map (·.key)) ∧ Vals (kvs.map (·.2)) (es.map (·.val))
  | [], _, es, .nil, h => by
    cases h
    exact ⟨.nil, .nil⟩
  | (k, v) :: r, _, es, .cons (b := (k', u)) ⟨e1, e2⟩ t, h => by
    cases h with
    | cons hk hv ht =>
      obtain ⟨i1, i2⟩ := kvKeys t ht
      have e1' : k = k' := e1
      subst e1'
      refine ⟨.cons (kV_of hk) i1, .cons ?_ i2⟩
      exact Eq.mpr (congrArg (RelV v) hv) e2
section
variable {X : Cx} {pins : List (Addr × Obj)} {σ : St} {H : Hp} {s : Shared}
theorem DxAll.reads (I : Inv X pins σ H s) (hs : Sys X.base) {vs : List V} {ds : List PyData} (h : DxAll H vs ds) :
    ∀ us : List Value, Vals vs us → ∃ as, ReadsAll s.heap us ds as ∧ sysModules ∉ as := by
  refine DxAll.rec (motive_1 := fun v d _ => ∀ u, RelV v u → ∃ as, Reads s.heap u d as ∧ sysModules ∉ as)
    (motive_2 := fun vs ds _ => ∀ us, Vals vs us → ∃ as, ReadsAll s.heap us ds as ∧ sysModules ∉ as) ?_ ?_ ?_ ?_ ?_ ?_ ?_ ?_ ?_ h
  · intro u r
    cases r
    exact ⟨_, Reads.none, by simp⟩
  · intro b u r
    cases r
    exact ⟨_, Reads.bool b, by simp⟩
  · intro i u r
    obtain ⟨t, rfl⟩ := r
    exact ⟨_, Reads.int i t, by simp⟩
  · intro x u r
    obtain ⟨t, rfl⟩ := r
    exact ⟨_, Reads.str x t, by simp⟩
  · intro a xs ds ha _ ih u r
    cases r
    obtain ⟨_, its, n, rv, ho⟩ := (show ObjOk X.prog X.w H s.heap a (.lst xs) from I.hok a _ ha)
    obtain ⟨as, hr, hn⟩ := ih _ rv
    refine ⟨_, Reads.list ho rfl rfl hr, fun z => ?_⟩
    rcases List.mem_cons.mp z with z | z
    · obtain ⟨o, q⟩ := hs
      have w := (I.bs _ _ q).2
      rw [z, ha] at w
      cases w
    · exact hn z
  · intro a xs ds ha _ ih u r
    cases r
    obtain ⟨_, its, rv, o, ho, hc, n, hd⟩ := (show ObjOk X.prog X.w H s.heap a (.tup xs) from I.hok a _ ha)
    obtain ⟨as, hr, hn⟩ := ih _ rv
    exact ⟨_, Reads.tuple ho hc hd hr, hn⟩
  · intro a kvs ds ha _ _ ih1 ih2 u r
    cases r
    obtain ⟨_, hm, vs, rk, o, es, ep, ho, hc, hd, _, hp, _⟩ := (show ObjOk X.prog X.w H s.heap a (.dK kvs) from I.hok a _ ha)
    obtain ⟨v1, v2⟩ := kvKeys rk hp
    obtain ⟨as, q1, n1⟩ := ih1 _ v1
    obtain ⟨bs, q2, n2⟩ := ih2 _ v2
    refine ⟨_, Reads.dict ho hc.1 hd q1 q2, fun z => ?_⟩
    rcases List.mem_append.mp z with z | z
    · rcases List.mem_cons.mp z with z | z
      · rw [← z] at hm
        simp at hm
      · exact n1 z
    · exact n2 z
  · intro us r
    cases r
    exact ⟨_, ReadsAll.nil, by simp⟩
  · intro v vs d ds _ _ ih1 ih2 us r
    cases r with
    | cons r1 r2 =>
      obtain ⟨as, q1, n1⟩ := ih1 _ r1
      obtain ⟨bs, q2, n2⟩ := ih2 _ r2
      refine ⟨_, ReadsAll.cons q1 q2, fun z => ?_⟩
      rcases List.mem_append.mp z with z | z
      · exact n1 z
      · exact n2 z
theorem Dx.reads (I : Inv X pins σ H s) (hs : Sys X.base) {v : V} {d : PyData} {u : Value} (h : Dx H v d) (r : RelV v u) :
    ∃ as, Reads s.heap u d as ∧ sysModules ∉ as := by
  obtain ⟨as, hr, hn⟩ := DxAll.reads I hs (.cons h .nil) [u] (.cons r .nil)
  cases hr with
  | cons h1 h2 =>
    exact ⟨_, h1, fun z => hn (List.mem_append_left _ z)⟩
/-- repr(v), v a list, a tuple or a dict of data -/
theorem call_reprD (hs : Sys X.base) (hg : X.A.guards = some []) (hu : X.A.units + 200 < cLine) :
    CallR X (.builtin "repr") (fun xs H Q => ∃ a d, xs = [V.ref a] ∧ Dx H (.ref a) d ∧ d.showable = true ∧ d.shown.length ≤ sizeLine ∧ d.depth ≤ 100 ∧ Q (.str d.shown) H) := by
  intro pins s σ H xs us Q I r h
  obtain ⟨a, d, rfl, hd, hw, hz, hdp, q⟩ := h
  cases r with
  | cons r1 r2 =>
    cases r2
    cases r1
    obtain ⟨as, hr, hn⟩ := Dx.reads I hs hd rfl
    exact repr_of_reads' hr hw (fun _ => hn) hg (by omega) (fun _ _ e => e) (fun h' u tk k => ⟨.str d.shown, H, I.kept (t' := tk) k, ⟨u, rfl⟩, q⟩) hz
end
end L2.XK

set_option Elab.async false
set_option maxRecDepth 100000
set_option maxHeartbeats 4000000
/-! What else the laws' helpers ask: count over flat items, the makers of the exceptions, words for a pool of three ints. -/
namespace L2.XK
open PySem PySem.Spec PyProof.Rows XC
section
variable {X : Cx}
/-- xs.count(y), flat items -/
def rCountF (K : PySem.W.Frag) : V → List V → Hp → VK → Prop := fun x xs H Q => ∃ (a : Addr) (ys : List V) (y : V), x = V.ref a ∧ xs = [y] ∧
  SqL K H a ys ∧ flatV y = true ∧ ys.all flatV = true ∧ Q (.int (ys.countP fun z => eqV z y : Nat)) H
theorem countEq {y : V} : ∀ {ys : List V} {its : List Value}, Vals ys its → ys.all flatV = true →
    its.countP (eqU y) = ys.countP fun z => eqV z y
  | [], _, .nil, _ => rfl
  | z :: r, _, .cons (b := v) h t, k => by
    rw [List.all_cons, Bool.and_eq_true] at k
    rw [List.countP_cons, List.countP_cons, countEq t k.2, eqU_of h k.1]
theorem mt_countB : MtR X "list.count" (rCountF X.K) := by
  intro pins s σ H x xs v us Q I rx rxs h
  obtain ⟨a, ys, y, rfl, rfl, hs, fy, fys, q⟩ := h
  cases rx
  cases rxs with
  | cons ry rt =>
    rename_i uy ut
    cases rt
    obtain ⟨its, rv, ⟨⟨cls, dd, data, sl⟩, n, ho, hc, hdn, hd⟩, hlen⟩ := I.list hs
    simp only at hc hd
    subst hc hd
    refine call_meets PySem.F.slot_list_count ⟨_, ho, rfl⟩ PySem.F.entry_list_count (PySem.F.args_list_count_2 _ _)
      (SeqAt.list_countAt a its.toArray n dd sl uy (eqU y)) ⟨ho, fun u' hu' => mem_eqAt ry fy rv fys u' (by simpa using hu'), ?_⟩
    have ec : its.toArray.toList.countP (eqU y) = ys.countP fun z => eqV z y := countEq (by simpa using rv) fys
    refine ⟨.int (ys.countP fun z => eqV z y : Nat), H, I.tok _, ⟨s.toks, ?_⟩, q⟩
    show Value.int ((its.toArray.toList.countP (eqU y) : Nat) : Int) s.toks = Value.int ((ys.countP fun z => eqV z y : Nat) : Int) s.toks
    rw [ec]

/-! ### the makers -/
theorem room200 {k : Nat} {A : Around} (h : Room k A) : A.units + 200 < cLine := by
  have := h.un
  omega
def fsOne (f : Str) : List V → Option (List (Str × V))
  | [v] => some [(f, v)]
  | _ => none
theorem hlOne {f : Str} : ∀ (vs : List V) (fs : List (Str × V)), fsOne f vs = some fs → vs.length = 1
  | [_], _, _ => rfl
  | [], _, h => by cases h
  | _ :: _ :: _, _, h => by cases h
def fsTwo (f g : Str) : List V → Option (List (Str × V))
  | [v, w] => some [(g, w), (f, v)]
  | _ => none
theorem hlTwo {f g : Str} : ∀ (vs : List V) (fs : List (Str × V)), fsTwo f g vs = some fs → vs.length = 2
  | [_, _], _, _ => rfl
  | [], _, h => by cases h
  | [_], _, h => by cases h
  | _ :: _ :: _ :: _, _, h => by cases h
def fsTwoR (f g : Str) : List V → Option (List (Str × V))
  | [w, v] => some [(g, w), (f, v)]
  | _ => none
theorem hlTwoR {f g : Str} : ∀ (vs : List V) (fs : List (Str × V)), fsTwoR f g vs = some fs → vs.length = 2
  | [_, _], _, _ => rfl
  | [], _, h => by cases h
  | [_], _, h => by cases h
  | _ :: _ :: _ :: _, _, h => by cases h
theorem relOne {f : Str} {v : V} {u : Value} (r : RelV v u) (g : Str) : RelO (List.lookup g [(f, v)]) (if g = f then some u else none) :=
  relO_put (fs := []) (mA := fun _ => none) r (fun _ => True.intro) g
theorem relTwo {f g : Str} {v w : V} {u z : Value} (r : RelV v u) (r' : RelV w z) (x : Str) :
    RelO (List.lookup x [(g, w), (f, v)]) (if x = g then some z else if x = f then some u else none) :=
  relO_put (fs := [(f, v)]) (mA := fun x => if x = f then some u else none) r' (fun y => relOne r y) x
section
variable {C fI : Addr} {B newId initId : String} {bmB : List Value} {k : Nat}
theorem pairOne {vs : List V} {us : List Value} {f : Str} {fs : List (Str × V)} (r : Vals vs us) (h : fsOne f vs = some fs) : ∃ v u, vs = [v] ∧ us = [u] ∧ RelV v u ∧ fs = [(f, v)] := by
  cases r with
  | nil => cases h
  | cons a t =>
    cases t with
    | nil =>
      cases h
      exact ⟨_, _, rfl, rfl, a, rfl⟩
    | cons _ _ => cases h
theorem pairTwo {vs : List V} {us : List Value} {f g : Str} {fs : List (Str × V)} (r : Vals vs us) (h : fsTwo f g vs = some fs) :
    ∃ v w u z, vs = [v, w] ∧ us = [u, z] ∧ RelV v u ∧ RelV w z ∧ fs = [(g, w), (f, v)] := by
  cases r with
  | nil => cases h
  | cons a t =>
    cases t with
    | nil => cases h
    | cons b t =>
      cases t with
      | nil =>
        cases h
        exact ⟨_, _, _, _, rfl, rfl, a, b, rfl⟩
      | cons _ _ => cases h
theorem pairTwoR {vs : List V} {us : List Value} {f g : Str} {fs : List (Str × V)} (r : Vals vs us) (h : fsTwoR f g vs = some fs) :
    ∃ v w u z, vs = [w, v] ∧ us = [z, u] ∧ RelV v u ∧ RelV w z ∧ fs = [(g, w), (f, v)] := by
  cases r with
  | nil => cases h
  | cons a t =>
    cases t with
    | nil => cases h
    | cons b t =>
      cases t with
      | nil =>
        cases h
        exact ⟨_, _, _, _, rfl, rfl, b, a, rfl⟩
      | cons _ _ => cases h
theorem mkGvP (T : ClsGv X.K C fI B newId initId bmB) (hr : Room k X.A) : Maker X C 1 [] (fsOne "given") := by
  intro s1 vs us ws fs R hK hlim l1 l2 rv ef q
  obtain rfl : ws = [] := List.length_eq_zero_iff.mp l2
  rw [List.append_nil] at rv
  obtain ⟨v, u, rfl, rfl, r, rfl⟩ := pairOne rv ef
  exact madeGvP T hK hlim (by have := hr.dp; omega) fun h' tk e d M => q h' tk e d _ M (relOne r)
theorem mkGvK (T : ClsGv X.K C fI B newId initId bmB) (hr : Room k X.A) : Maker X C 0 ["given"] (fsOne "given") := by
  intro s1 vs us ws fs R hK hlim l1 l2 rv ef q
  obtain rfl : us = [] := List.length_eq_zero_iff.mp l1
  rw [List.nil_append] at rv
  obtain ⟨v, u, rfl, rfl, r, rfl⟩ := pairOne rv ef
  exact madeGvK T hK hlim (by have := hr.dp; omega) fun h' tk e d M => q h' tk e d _ M (relOne r)
theorem mkIxP (T : ClsIx X.K C fI B newId initId bmB) (hr : Room k X.A) : Maker X C 1 [] (fsOne "index") := by
  intro s1 vs us ws fs R hK hlim l1 l2 rv ef q
  obtain rfl : ws = [] := List.length_eq_zero_iff.mp l2
  rw [List.append_nil] at rv
  obtain ⟨v, u, rfl, rfl, r, rfl⟩ := pairOne rv ef
  exact madeIxP T hK hlim (by have := hr.dp; omega) fun h' tk e d M => q h' tk e d _ M (relOne r)
theorem mkIxK (T : ClsIx X.K C fI B newId initId bmB) (hr : Room k X.A) : Maker X C 0 ["index"] (fsOne "index") := by
  intro s1 vs us ws fs R hK hlim l1 l2 rv ef q
  obtain rfl : us = [] := List.length_eq_zero_iff.mp l1
  rw [List.nil_append] at rv
  obtain ⟨v, u, rfl, rfl, r, rfl⟩ := pairOne rv ef
  exact madeIxK T hK hlim (by have := hr.dp; omega) fun h' tk e d M => q h' tk e d _ M (relOne r)
theorem mkMoP (T : ClsMo X.K C fI B newId initId bmB) (hr : Room k X.A) : Maker X C 1 [] (fsOne "most") := by
  intro s1 vs us ws fs R hK hlim l1 l2 rv ef q
  obtain rfl : ws = [] := List.length_eq_zero_iff.mp l2
  rw [List.append_nil] at rv
  obtain ⟨v, u, rfl, rfl, r, rfl⟩ := pairOne rv ef
  exact madeMoP T hK hlim (by have := hr.dp; omega) fun h' tk e d M => q h' tk e d _ M (relOne r)
theorem mkMoK (T : ClsMo X.K C fI B newId initId bmB) (hr : Room k X.A) : Maker X C 0 ["most"] (fsOne "most") := by
  intro s1 vs us ws fs R hK hlim l1 l2 rv ef q
  obtain rfl : us = [] := List.length_eq_zero_iff.mp l1
  rw [List.nil_append] at rv
  obtain ⟨v, u, rfl, rfl, r, rfl⟩ := pairOne rv ef
  exact madeMoK T hK hlim (by have := hr.dp; omega) fun h' tk e d M => q h' tk e d _ M (relOne r)
theorem mkBrP (T : ClsBr X.K C fI B newId initId bmB) (hr : Room k X.A) : Maker X C 2 [] (fsTwo "index" "shown") := by
  intro s1 vs us ws fs R hK hlim l1 l2 rv ef q
  obtain rfl : ws = [] := List.length_eq_zero_iff.mp l2
  rw [List.append_nil] at rv
  obtain ⟨v, w, u, z, rfl, rfl, r, r', rfl⟩ := pairTwo rv ef
  exact madeBrP T hK hlim (by have := hr.dp; omega) fun h' tk e d M => q h' tk e d _ M (relTwo r r')
theorem mkBrR (T : ClsBr X.K C fI B newId initId bmB) (hr : Room k X.A) : Maker X C 0 ["shown", "index"] (fsTwoR "index" "shown") := by
  intro s1 vs us ws fs R hK hlim l1 l2 rv ef q
  obtain rfl : us = [] := List.length_eq_zero_iff.mp l1
  rw [List.nil_append] at rv
  obtain ⟨v, w, u, z, rfl, rfl, r, r', rfl⟩ := pairTwoR rv ef
  exact madeBrR T hK hlim (by have := hr.dp; omega) fun h' tk e d M => q h' tk e d _ M (relTwo r r')
end
end

theorem s_next {D : Ends} {σ : St} {H : Hp} (h : D.nx σ H) : tNext D σ H := h
theorem s_seq {D : Ends} {σ : St} {H : Hp} {t u : TS} (h : t { D with nx := u D } σ H) : tSeq t u D σ H := h
/-! ### a pool: three ints in a list -/
def PoolAt (H : Hp) (p : Addr) (n : Int) : Prop := ∃ a b c : Int, H p = some (.lst [.int a, .int b, .int c]) ∧ 0 ≤ a ∧ a < 2147483563 ∧ 0 ≤ b ∧ 0 ≤ c ∧ c ≤ n
/-- all but p stands as it stood -/
def But (p : Addr) (H H' : Hp) : Prop := ∀ q o, q ≠ p → H q = some o → H' q = some o
theorem But.refl {p : Addr} {H : Hp} : But p H H := fun _ _ _ e => e
theorem But.trans {p : Addr} {H H1 H2 : Hp} (a : But p H H1) (b : But p H1 H2) : But p H H2 := fun q o n e => b q o n (a q o n e)
theorem But.of {p : Addr} {H H' : Hp} (e : Evl.Ex H H') : But p H H' := fun q o _ h => e q o h
theorem But.upd {p : Addr} {H : Hp} {o : HO} : But p H (upd H p o) := fun q u n e => by rw [upd_ne n]; exact e
theorem PoolAt.ex {H H' : Hp} {p : Addr} {n : Int} (h : PoolAt H p n) (e : Evl.Ex H H') : PoolAt H' p n := by
  obtain ⟨a, b, c, hp, r⟩ := h
  exact ⟨a, b, c, e _ _ hp, r⟩
theorem PoolAt.le {H : Hp} {p : Addr} {n m : Int} (h : PoolAt H p n) (e : n ≤ m) : PoolAt H p m := by
  obtain ⟨a, b, c, hp, h1, h2, h3, h4, h5⟩ := h
  exact ⟨a, b, c, hp, h1, h2, h3, h4, Int.le_trans h5 e⟩
/-- draw(pool, many) -/
def spDraw : Sp := fun vs H Q _ => ∃ (p : Addr) (n m : Int), vs = [.ref p, .int m] ∧ PoolAt H p n ∧ n ≤ 1000000 ∧ 1 ≤ m ∧ m < 1073741824 ∧
  ∀ H' r, PoolAt H' p (n + 1) → But p H H' → 0 ≤ r → r < m → Q (.int r) H'
/-- pick(pool, things), things a list -/
def spPick : Sp := fun vs H Q _ => ∃ (p l : Addr) (n : Int) (xs : List V), vs = [.ref p, .ref l] ∧ PoolAt H p n ∧ n ≤ 1000000 ∧ l ≠ p ∧ H l = some (.lst xs) ∧ 1 ≤ xs.length ∧ xs.length < 1073741824 ∧
  ∀ H' v, PoolAt H' p (n + 1) → But p H H' → v ∈ xs → Q v H'
/-- pool(cells, turn) -/
def spPool (K : PySem.W.Frag) : Sp := fun vs H Q _ => ∃ (a : Addr) (ns : List Int) (k : Int), vs = [.ref a, .int k] ∧ SqL K H a (ns.map V.int) ∧ ns.length ≤ 63 ∧ 0 ≤ k ∧ k ≤ 1000 ∧
  ∀ H' p, H p = none → Evl.Ex H H' → PoolAt H' p 0 → Q (.ref p) H'
end L2.XK

set_option Elab.async false
set_option maxRecDepth 100000
set_option maxHeartbeats 4000000
set_option linter.all false
/-! More of what evaluates to what: lists joined and repeated, isinstance of an exception that was made, its fields, == of lists of truth values, a chain. -/
namespace L2.XK
open PySem PySem.Spec PyProof.Rows XC Evl
section
variable {K : PySem.W.Frag} {σ : L2.St} {H : Hp} {ta tb tc : TE}
theorem el_cat {l : Addr} {xs ys : List V} (ha : Ev ta σ H (.ref l)) (hl : H l = some (.lst xs)) (hb : EvL tb σ H ys) (hz : xs.length + ys.length ≤ 100000) :
    EvL (tOp rCat ta tb) σ H (xs ++ ys) := fun H1 e Q q =>
  ha H1 e _ fun H2 e2 => hb H2 (e.trans e2) _ fun p H3 _ e3 h3 =>
    ⟨l, p, xs, ys, rfl, rfl, ((e.trans e2).trans e3) l _ hl, h3, sz_of hz, fun r hr => q r _ (fresh_back (e2.trans e3) hr) ((e2.trans e3).trans (Ex.new hr)) upd_same⟩
theorem el_catN {xs ys : List V} (ha : EvL ta σ H xs) (hb : ∀ H', Ex H H' → EvL tb σ H' ys) (hz : xs.length + ys.length ≤ 100000) :
    EvL (tOp rCat ta tb) σ H (xs ++ ys) := fun H1 e Q q =>
  ha H1 e _ fun l H2 _ e2 hl => hb H2 (e.trans e2) H2 (Ex.refl _) _ fun p H3 _ e3 h3 =>
    ⟨l, p, xs, ys, rfl, rfl, e3 l _ hl, h3, sz_of hz, fun r hr => q r _ (fresh_back (e2.trans e3) hr) ((e2.trans e3).trans (Ex.new hr)) upd_same⟩
theorem el_rep {xs : List V} {k : Nat} (ha : EvL ta σ H xs) (hk : k ≤ 1000) (hz : xs.length * k ≤ 100000) :
    EvL (tOp rRep ta (tC (.int (k : Int)))) σ H (List.replicate k xs).flatten := fun H1 e Q q =>
  ha H1 e _ fun l H2 _ e2 hl => ⟨l, (k : Int), xs, rfl, rfl, hl, by omega, by omega, by simpa using sz_of hz, fun r hr => by
    simpa using q r _ (fresh_back e2 hr) (e2.trans (Ex.new hr)) upd_same⟩
theorem ev_isX {e C : Addr} {d : Option Addr} {c : V} {u : Value} {b : Bool} (ha : Ev ta σ H (.ref e)) (he : H e = some (exo e C d))
    (hd : ∀ z, d = some z → ∃ fs, H z = some (.xd fs)) (X : XIs K C) (k : ClsV c u) (kit : PySem.W.kitOne K (.ref C) u = some b) :
    Ev (tCB (rIsX K) (tCons ta (tCons (tC c) tNil))) σ H (.bl b) := fun H1 e1 Q q =>
  ha H1 e1 _ fun H2 e2 => ⟨e, C, d, c, u, b, rfl, (e1.trans e2) _ _ he, fun z hz => by
    obtain ⟨fs, h⟩ := hd z hz
    exact ⟨fs, (e1.trans e2) _ _ h⟩, X, k, kit, q H2 e2⟩
theorem ev_xfld {e C d : Addr} {fs : List (Str × V)} {f : Str} {v : V} (ha : Ev ta σ H (.ref e)) (he : H e = some (exo e C (some d))) (hd : H d = some (.xd fs))
    (hl : fs.lookup f = some v) (T : ∃ B newId initId bmB, EC K C B newId initId bmB) (nf : PySem.W.findIn K (.ref C) f = some none) : Ev (tXFld K f ta) σ H v := fun H1 e1 Q q =>
  ha H1 e1 _ fun H2 e2 => ⟨e, C, d, fs, v, rfl, (e1.trans e2) _ _ he, (e1.trans e2) _ _ hd, hl, T, nf, q H2 e2⟩
/-- a new exception -/
theorem ev_new {C : Addr} {fsOf : List V → Option (List (Str × V))} {ts : TA} {vs : List V} {fs : List (Str × V)} (h : EvA ts σ H vs) (hf : fsOf vs = some fs) :
    ∀ H1, Ex H H1 → ∀ Q : VK, (∀ a d H2, H1 a = none → H1 d = none → Ex H1 H2 → H2 a = some (exo a C (some d)) → H2 d = some (.xd fs) → Q (.ref a) H2) → tNew C fsOf ts σ H1 Q := fun H1 e Q q =>
  h H1 e _ fun H2 e2 => ⟨fs, hf, fun a d ha hd hne => q a d _ (fresh_back e2 ha) (fresh_back e2 hd)
    ((e2.trans (Ex.new hd)).trans (Ex.new (by rw [upd_ne (Ne.symm hne)]; exact ha))) upd_same (by rw [upd_ne hne, upd_same])⟩
theorem ev_chain {r r' : R2} {x y z : V} {b c : Bool} (ha : Ev ta σ H x) (hb : Ev tb σ H y) (hr : RV r x y H (.bl b)) (hc : Ev tc σ H z) (hr' : RV r' y z H (.bl c)) :
    Ev (tChain r r' ta tb tc) σ H (.bl (b && c)) := fun H1 e Q q =>
  ha H1 e _ fun H2 e2 => hb H2 (e.trans e2) _ fun H3 e3 => hr H3 ((e.trans e2).trans e3) _ fun H4 e4 => ⟨b, rfl, by
    have e14 := (e2.trans e3).trans e4
    cases b with
    | true =>
      show tc σ H4 _
      exact hc H4 (e.trans e14) _ fun H5 e5 => hr' H5 ((e.trans e14).trans e5) Q fun H6 e6 => q H6 ((e14.trans e5).trans e6)
    | false =>
      show Q (.bl false) H4
      exact q H4 e14⟩
theorem dpBools {bs : List Bool} : DpAll K H (bs.map V.bl) (bs.map PyData.bool) := by
  induction bs with
  | nil => exact .nil
  | cons b bs ih => exact .cons (.bl b) ih
theorem canBools : ∀ bs : List Bool, PyData.canLayAll0 (bs.map PyData.bool) = true
  | [] => rfl
  | b :: bs => by
    have ih := canBools bs
    simp only [List.map_cons, PyData.canLayAll0, ih, Bool.and_true]
    rfl
theorem depthBools : ∀ bs : List Bool, PyData.depthAll (bs.map PyData.bool) = 0
  | [] => rfl
  | b :: bs => by
    have ih := depthBools bs
    simp only [List.map_cons, PyData.depthAll, ih, PyData.depth, Nat.max_self]
theorem shapedBools (bs : List Bool) : SeqAt.shaped (.list (bs.map PyData.bool)) = true := by
  have h1 := canBools bs
  have h2 := depthBools bs
  unfold SeqAt.shaped
  simp only [PyData.canLay0, PyData.depth, h1, h2]
  decide
theorem eqvBools (bs : List Bool) : PyData.eqv (.list (bs.map PyData.bool)) (.list (bs.map PyData.bool)) = true :=
  SeqAt.eqv_refl _ (SeqAt.canLay_of_shaped (shapedBools bs))
theorem rv_neBools {p q : Addr} {bs : List Bool} (hp : H p = some (.lst (bs.map V.bl))) (hq : H q = some (.lst (bs.map V.bl))) : RV (rNeD K) (.ref p) (.ref q) H (.bl false) := fun H1 e Q k => by
  refine ⟨.list (bs.map PyData.bool), .list (bs.map PyData.bool), .lst (sq_of (e _ _ hp)) dpBools, .lst (sq_of (e _ _ hq)) dpBools, shapedBools bs, shapedBools bs, ?_⟩
  rw [eqvBools]
  exact k H1 (Ex.refl _)
theorem rv_eqBools {p q : Addr} {bs : List Bool} (hp : H p = some (.lst (bs.map V.bl))) (hq : H q = some (.lst (bs.map V.bl))) : RV (rEqD K) (.ref p) (.ref q) H (.bl true) := fun H1 e Q k => by
  refine ⟨.list (bs.map PyData.bool), .list (bs.map PyData.bool), .lst (sq_of (e _ _ hp)) dpBools, .lst (sq_of (e _ _ hq)) dpBools, shapedBools bs, shapedBools bs, ?_⟩
  rw [eqvBools]
  exact k H1 (Ex.refl _)
end
/-- a class of ours, the one above it, the built-in one above that -/
structure Srt (K : PySem.W.Frag) (C W : Addr) (B : String) : Prop where
  is : XIs K C
  mro : ∃ cd, PySem.W.clsIn K C = some cd ∧ cd.mro = [.ref C, .ref W, .type B, .type "Exception", .type "BaseException", .type "object"]
def isOwn (K : PySem.W.Frag) (C : Addr) : Prop := ((PySem.W.clsIn K C).isSome && PySem.W.typeIn K (.ref C) == some (.type "type")) = true
theorem kit_own {K : PySem.W.Frag} {C W D : Addr} {B : String} (S : Srt K C W B) (o : isOwn K D) : PySem.W.kitOne K (.ref C) (.ref D) = some (decide (D = C ∨ D = W)) := by
  obtain ⟨cd, hc, hm⟩ := S.mro
  have e1 : PySem.W.kitCls K (.ref C) (.ref D) = some (decide (D = C ∨ D = W)) := by
    unfold PySem.W.kitCls
    dsimp only
    have o' := o
    unfold isOwn at o'
    rw [if_pos o']
    unfold PySem.W.subIn PySem.W.mroIn
    dsimp only
    rw [hc, Option.bind_some, hm, if_neg (by simp)]
    congr 1
    rw [Bool.eq_iff_iff]
    simp
  unfold PySem.W.kitOne
  split
  · rename_i h
    have h' : Value.ref C = Value.ref D := by simpa using h
    cases h'
    simp
  · exact e1
theorem kit_blt {K : PySem.W.Frag} {C W : Addr} {B T : String} (S : Srt K C W B) (o : PySem.W.kitMeta T = true) :
    PySem.W.kitOne K (.ref C) (.type T) = some ([B, "Exception", "BaseException", "object"].contains T) := by
  obtain ⟨cd, hc, hm⟩ := S.mro
  have e1 : PySem.W.kitCls K (.ref C) (.type T) = some ([B, "Exception", "BaseException", "object"].contains T) := by
    unfold PySem.W.kitCls
    dsimp only
    rw [if_pos o]
    unfold PySem.W.subIn PySem.W.mroIn
    dsimp only
    rw [hc, Option.bind_some, hm, if_neg (by simp)]
    congr 1
    rw [Bool.eq_iff_iff]
    simp
  unfold PySem.W.kitOne
  rw [if_neg (by simp)]
  exact e1
end L2.XK

set_option Elab.async false
set_option maxRecDepth 100000
set_option maxHeartbeats 4000000
set_option linter.all false
/-! Data that is made on the way, beside a list at p that changes later. -/
namespace L2.XK
open PySem PySem.Spec PyProof.Rows XC Evl
theorem exDel {p : Addr} {H H' : Hp} (e : Ex H H') : Ex (delH H p) (delH H' p) := fun a o h => by
  by_cases z : a = p
  · rw [z, delH_same] at h
    cases h
  · rw [delH_ne z] at h ⊢
    exact e a o h
theorem butDel {p : Addr} {H H' : Hp} (e : But p H H') : Ex (delH H p) (delH H' p) := fun a o h => by
  by_cases z : a = p
  · rw [z, delH_same] at h
    cases h
  · rw [delH_ne z] at h ⊢
    exact e a o z h
theorem delEx {p : Addr} {H : Hp} : Ex (delH H p) H := fun a o h => by
  by_cases z : a = p
  · rw [z, delH_same] at h
    cases h
  · rw [delH_ne z] at h
    exact h
/-- evaluates to the data d, which does not lean on what stands at p -/
def EvD (p : Addr) (te : TE) (σ : L2.St) (H : Hp) (d : PyData) : Prop := ∀ H1, Ex H H1 → ∀ Q : VK, (∀ v H2, Ex H1 H2 → Dx (delH H2 p) v d → Q v H2) → te σ H1 Q
def EvDA (p : Addr) (ta : TA) (σ : L2.St) (H : Hp) (ds : List PyData) : Prop := ∀ H1, Ex H H1 → ∀ Q : List V → Hp → Prop, (∀ vs H2, Ex H1 H2 → DxAll (delH H2 p) vs ds → Q vs H2) → ta σ H1 Q
def EvDL (p : Addr) (te : TE) (σ : L2.St) (H : Hp) (ds : List PyData) : Prop := ∀ H1, Ex H H1 → ∀ Q : VK,
  (∀ l xs H2, H1 l = none → Ex H1 H2 → H2 l = some (.lst xs) → DxAll (delH H2 p) xs ds → Q (.ref l) H2) → te σ H1 Q
theorem dxLen {H : Hp} : ∀ {vs : List V} {ds : List PyData}, DxAll H vs ds → vs.length = ds.length
  | _, _, .nil => rfl
  | _, _, .cons _ t => congrArg Nat.succ (dxLen t)
section
variable {p : Addr} {σ : L2.St} {H : Hp} {te tb : TE} {ta : TA} {o : HO}
theorem ed_ev {v : V} {d : PyData} (h : Ev te σ H v) (k : ∀ H', Dx H' v d) : EvD p te σ H d := fun H1 e Q q => h H1 e Q fun H2 e2 => q v H2 e2 (k _)
theorem eda_nil : EvDA p tNil σ H [] := fun H1 e Q q => q [] H1 (Ex.refl _) .nil
theorem eda_cons {d : PyData} {ds : List PyData} (h : EvD p te σ H d) (t : EvDA p ta σ H ds) : EvDA p (tCons te ta) σ H (d :: ds) := fun H1 e Q q =>
  h H1 e _ fun v H2 e2 hv => t H2 (e.trans e2) _ fun vs H3 e3 ht => q (v :: vs) H3 (e2.trans e3) (.cons (hv.same (exDel e3)) ht)
theorem newDel {H' : Hp} {q : Addr} {u : HO} (hp : H p = some o) (e : Ex H H') (hq : H' q = none) : delH (upd H' q u) p q = some u ∧ Ex (delH H' p) (delH (upd H' q u) p) := by
  have hne : q ≠ p := fun z => by
    rw [z, e _ _ hp] at hq
    cases hq
  exact ⟨by rw [delH_ne hne, upd_same], exDel (Ex.new hq)⟩
theorem edl_lst {ds : List PyData} (hp : H p = some o) (h : EvDA p ta σ H ds) (hl : ds.length ≤ 100000) : EvDL p (tLst ta) σ H ds := fun H1 e Q q =>
  h H1 e _ fun vs H2 e2 hv => ⟨sz_of (by rw [dxLen hv]; exact hl), fun l hn => q l vs _ (fresh_back e2 hn) (e2.trans (Ex.new hn)) upd_same (hv.same (newDel hp (e.trans e2) hn).2)⟩
theorem ed_lst {ds : List PyData} (hp : H p = some o) (h : EvDA p ta σ H ds) (hl : ds.length ≤ 100000) : EvD p (tLst ta) σ H (.list ds) := fun H1 e Q q =>
  h H1 e _ fun vs H2 e2 hv => ⟨sz_of (by rw [dxLen hv]; exact hl), fun l hn =>
    q (.ref l) _ (e2.trans (Ex.new hn)) (.lst (newDel hp (e.trans e2) hn).1 (hv.same (newDel hp (e.trans e2) hn).2))⟩
theorem ed_tup {ds : List PyData} (hp : H p = some o) (h : EvDA p ta σ H ds) (hl : ds.length ≤ 100000) : EvD p (tTup ta) σ H (.tuple ds) := fun H1 e Q q =>
  h H1 e _ fun vs H2 e2 hv => ⟨sz_of (by rw [dxLen hv]; exact hl), fun l hn =>
    q (.ref l) _ (e2.trans (Ex.new hn)) (.tup (newDel hp (e.trans e2) hn).1 (hv.same (newDel hp (e.trans e2) hn).2))⟩
theorem ed_dict0 (hp : H p = some o) : EvD p (fun σ H Q => ∀ d, H d = none → Q (.ref d) (upd H d (.dK []))) σ H (.dict []) := fun H1 e Q q l hn =>
  q (.ref l) _ (Ex.new hn) (.dic (newDel hp e hn).1 .nil .nil)
theorem edl_cat {l : Addr} {xs : List V} {ds es : List PyData} (hp : H p = some o) (ha : Ev te σ H (.ref l)) (hl : H l = some (.lst xs)) (hd : DxAll (delH H p) xs ds) (hb : EvDL p tb σ H es)
    (hz : ds.length + es.length ≤ 100000) : EvDL p (tOp rCat te tb) σ H (ds ++ es) := fun H1 e Q q =>
  ha H1 e _ fun H2 e2 => hb H2 (e.trans e2) _ fun r ys H3 hr e3 h3 hy =>
    ⟨l, r, xs, ys, rfl, rfl, ((e.trans e2).trans e3) l _ hl, h3, sz_of (by rw [dxLen hd, dxLen hy]; exact hz), fun n hn =>
      q n _ _ (fresh_back (e2.trans e3) hn) ((e2.trans e3).trans (Ex.new hn)) upd_same
        (((hd.same (exDel ((e.trans e2).trans e3))).append hy).same (newDel hp ((e.trans e2).trans e3) hn).2)⟩
theorem ed_dict1 {k : Str} {i : Int} (hp : H p = some o) : EvD p (tDisp [(tC (.str k), tC (.int i))]) σ H (.dict [(.str k, .int i)]) := fun H1 e Q q l hn => by
  have hx := newDel (u := .dK [(.inr k, .int i)]) hp e hn
  refine ⟨upd_same, [(.inr k, .int i)], rfl, by show 1 ≤ 15; decide, ?_⟩
  show Q (.ref l) (upd (upd H1 l (.dK [])) l (.dK [(.inr k, .int i)]))
  rw [upd_upd]
  exact q (.ref l) _ (Ex.new hn) (.dic (ds := [(.str k, .int i)]) hx.1 (.cons (.str k) .nil) (.cons (.int i) .nil))
theorem s_asgDL {D : Ends} {i : Nat} {ds : List PyData} (h : EvDL p te σ H ds) (k : ∀ l xs H1, H l = none → Ex H H1 → H1 l = some (.lst xs) → DxAll (delH H1 p) xs ds → D.nx (σ.set i (some (.ref l))) H1) :
    tAsg te (gName i) D σ H := h H (Ex.refl H) _ fun l xs H1 hn e h1 hd => k l xs H1 hn e h1 hd
end
end L2.XK

set_option Elab.async false
set_option maxRecDepth 100000
set_option maxHeartbeats 4000000
namespace L2.K01
open PySem PySem.Spec PyProof.Rows
def topS (i : Nat) : Stmt := PySem.Challenge.pw_holdhouse_k01_limits_and_errors.main.body.getD i (.Pass ⟨0, 0, 0, 0⟩)
abbrev sLawPool : Stmt := topS 32
abbrev NLawPool : List Str := ["_law_cells", "_law_turn", "_law_cell", "_law_seed", "_law_each"]
theorem scLawPool : FnScope NLawPool ["_law_cells", "_law_turn"] (defScope sLawPool) := ⟨rfl, rfl, rfl, by decide +kernel, rfl, by decide +kernel, by decide +kernel⟩
abbrev sLawDraw : Stmt := topS 33
abbrev NLawDraw : List Str := ["_law_pool_here", "_law_many", "_law_digit"]
theorem scLawDraw : FnScope NLawDraw ["_law_pool_here", "_law_many"] (defScope sLawDraw) := ⟨rfl, rfl, rfl, by decide +kernel, rfl, by decide +kernel, by decide +kernel⟩
abbrev sLawPick : Stmt := topS 34
abbrev NLawPick : List Str := ["_law_pool_here", "_law_things"]
theorem scLawPick : FnScope NLawPick ["_law_pool_here", "_law_things"] (defScope sLawPick) := ⟨rfl, rfl, rfl, by decide +kernel, rfl, by decide +kernel, by decide +kernel⟩
abbrev sLawError : Stmt := topS 35
abbrev NLawError : List Str := ["_law_e", "_law_sorts", "_law_bases", "_law_at"]
theorem scLawError : FnScope NLawError ["_law_e"] (defScope sLawError) := ⟨rfl, rfl, rfl, by decide +kernel, rfl, by decide +kernel, by decide +kernel⟩
abbrev sLawField : Stmt := topS 36
abbrev NLawField : List Str := ["_law_e", "_law_at"]
theorem scLawField : FnScope NLawField ["_law_e", "_law_at"] (defScope sLawField) := ⟨rfl, rfl, rfl, by decide +kernel, rfl, by decide +kernel, by decide +kernel⟩
abbrev sLawLimits : Stmt := topS 37
abbrev NLawLimits : List Str := ["_law_some"]
theorem scLawLimits : FnScope NLawLimits [] (defScope sLawLimits) := ⟨rfl, rfl, rfl, by decide +kernel, rfl, by decide +kernel, by decide +kernel⟩
abbrev sLawOdd : Stmt := topS 38
abbrev NLawOdd : List Str := ["_law_pool_here", "_law_menu"]
theorem scLawOdd : FnScope NLawOdd ["_law_pool_here"] (defScope sLawOdd) := ⟨rfl, rfl, rfl, by decide +kernel, rfl, by decide +kernel, by decide +kernel⟩
abbrev sLawRight : Stmt := topS 39
abbrev NLawRight : List Str := ["_law_pool_here", "_law_some", "_law_below", "_law_due", "_law_other", "_law_last", "_law_odd_here", "_law_more", "_law_e", "_law_k"]
theorem scLawRight : FnScope NLawRight ["_law_pool_here"] (defScope sLawRight) := ⟨rfl, rfl, rfl, by decide +kernel, rfl, by decide +kernel, by decide +kernel⟩
abbrev sLaw : Stmt := topS 40
abbrev NLaw : List Str := ["_law_cells", "_law_k", "_law_pool_here", "_law_turn"]
theorem scLaw : FnScope NLaw ["_law_cells"] (defScope sLaw) := ⟨rfl, rfl, rfl, by decide +kernel, rfl, by decide +kernel, by decide +kernel⟩
/-- where the defs and the classes stand -/
structure Adr where
  LawPool : Addr
  fdLawPool : FuncData
  LawDraw : Addr
  fdLawDraw : FuncData
  LawPick : Addr
  fdLawPick : FuncData
  LawError : Addr
  fdLawError : FuncData
  LawField : Addr
  fdLawField : FuncData
  LawLimits : Addr
  fdLawLimits : FuncData
  LawOdd : Addr
  fdLawOdd : FuncData
  LawRight : Addr
  fdLawRight : FuncData
  Law : Addr
  fdLaw : FuncData
  InvalidNumber : Addr
  InvalidText : Addr
  InvalidName : Addr
  InvalidWish : Addr
  InvalidIndex : Addr
  InvalidPicture : Addr
  InvalidEvent : Addr
  InvalidHearing : Addr
  NotAHouse : Addr
  InvalidStands : Addr
  InvalidKeys : Addr
  InvalidRows : Addr
  WrongLine : Addr
  InvalidWeaving : Addr
  UnknownName : Addr
  InUse : Addr
  NothingToUndo : Addr
  TooMany : Addr
  Broken : Addr
  WrongValue : Addr
  WrongState : Addr
  NoAnswer : Addr
  iInvalidNumber : Addr
  iInvalidText : Addr
  iInvalidName : Addr
  iInvalidWish : Addr
  iInvalidIndex : Addr
  iInvalidPicture : Addr
  iInvalidEvent : Addr
  iInvalidHearing : Addr
  iNotAHouse : Addr
  iInvalidStands : Addr
  iInvalidKeys : Addr
  iInvalidRows : Addr
  iWrongLine : Addr
  iInvalidWeaving : Addr
  iUnknownName : Addr
  iInUse : Addr
  iNothingToUndo : Addr
  iTooMany : Addr
  iBroken : Addr
  tMostLines : Tok
  tMostStands : Tok
  tMostKeys : Tok
  tMostRows : Tok
  tMostConditions : Tok
  tMostDeeds : Tok
  tMostPhones : Tok
  tMostShapes : Tok
/-- the classes in their order: the class, the one above it, the built-in one -/
def sorts (a : Adr) : Nat → Option (Addr × Addr × String)
  | 0 => some (a.InvalidNumber, a.WrongValue, "ValueError")
  | 1 => some (a.InvalidText, a.WrongValue, "ValueError")
  | 2 => some (a.InvalidName, a.WrongValue, "ValueError")
  | 3 => some (a.InvalidWish, a.WrongValue, "ValueError")
  | 4 => some (a.InvalidIndex, a.WrongValue, "ValueError")
  | 5 => some (a.InvalidPicture, a.WrongValue, "ValueError")
  | 6 => some (a.InvalidEvent, a.WrongValue, "ValueError")
  | 7 => some (a.InvalidHearing, a.WrongValue, "ValueError")
  | 8 => some (a.NotAHouse, a.WrongValue, "ValueError")
  | 9 => some (a.InvalidStands, a.WrongValue, "ValueError")
  | 10 => some (a.InvalidKeys, a.WrongValue, "ValueError")
  | 11 => some (a.InvalidRows, a.WrongValue, "ValueError")
  | 12 => some (a.WrongLine, a.WrongValue, "ValueError")
  | 13 => some (a.InvalidWeaving, a.WrongValue, "ValueError")
  | 14 => some (a.UnknownName, a.WrongState, "LookupError")
  | 15 => some (a.InUse, a.WrongState, "LookupError")
  | 16 => some (a.NothingToUndo, a.WrongState, "LookupError")
  | 17 => some (a.TooMany, a.NoAnswer, "ArithmeticError")
  | 18 => some (a.Broken, a.NoAnswer, "ArithmeticError")
  | _ => none
def owns (a : Adr) : List Addr := [a.InvalidNumber, a.InvalidText, a.InvalidName, a.InvalidWish, a.InvalidIndex, a.InvalidPicture, a.InvalidEvent, a.InvalidHearing, a.NotAHouse, a.InvalidStands, a.InvalidKeys, a.InvalidRows, a.WrongLine, a.InvalidWeaving, a.UnknownName, a.InUse, a.NothingToUndo, a.TooMany, a.Broken, a.WrongValue, a.WrongState, a.NoAnswer]
/-- what the top has written -/
structure Txt (K : PySem.W.Frag) (mg : Str → Option Value) (a : Adr) : Prop where
  gLawPool : mg "_law_pool" = some (.ref a.LawPool)
  kLawPool : PySem.W.keepIn K (.ref a.LawPool) = true
  fLawPool : Fun K "_law_pool" "_law_pool" sLawPool a.LawPool a.fdLawPool
  bLawPool : Binds K a.fdLawPool ["_law_cells", "_law_turn"] []
  gLawDraw : mg "_law_draw" = some (.ref a.LawDraw)
  kLawDraw : PySem.W.keepIn K (.ref a.LawDraw) = true
  fLawDraw : Fun K "_law_draw" "_law_draw" sLawDraw a.LawDraw a.fdLawDraw
  bLawDraw : Binds K a.fdLawDraw ["_law_pool_here", "_law_many"] []
  gLawPick : mg "_law_pick" = some (.ref a.LawPick)
  kLawPick : PySem.W.keepIn K (.ref a.LawPick) = true
  fLawPick : Fun K "_law_pick" "_law_pick" sLawPick a.LawPick a.fdLawPick
  bLawPick : Binds K a.fdLawPick ["_law_pool_here", "_law_things"] []
  gLawError : mg "_law_error" = some (.ref a.LawError)
  kLawError : PySem.W.keepIn K (.ref a.LawError) = true
  fLawError : Fun K "_law_error" "_law_error" sLawError a.LawError a.fdLawError
  bLawError : Binds K a.fdLawError ["_law_e"] []
  gLawField : mg "_law_field" = some (.ref a.LawField)
  kLawField : PySem.W.keepIn K (.ref a.LawField) = true
  fLawField : Fun K "_law_field" "_law_field" sLawField a.LawField a.fdLawField
  bLawField : Binds K a.fdLawField ["_law_e", "_law_at"] []
  gLawLimits : mg "_law_limits" = some (.ref a.LawLimits)
  kLawLimits : PySem.W.keepIn K (.ref a.LawLimits) = true
  fLawLimits : Fun K "_law_limits" "_law_limits" sLawLimits a.LawLimits a.fdLawLimits
  bLawLimits : Binds K a.fdLawLimits [] []
  gLawOdd : mg "_law_odd" = some (.ref a.LawOdd)
  kLawOdd : PySem.W.keepIn K (.ref a.LawOdd) = true
  fLawOdd : Fun K "_law_odd" "_law_odd" sLawOdd a.LawOdd a.fdLawOdd
  bLawOdd : Binds K a.fdLawOdd ["_law_pool_here"] []
  gLawRight : mg "_law_right" = some (.ref a.LawRight)
  kLawRight : PySem.W.keepIn K (.ref a.LawRight) = true
  fLawRight : Fun K "_law_right" "_law_right" sLawRight a.LawRight a.fdLawRight
  bLawRight : Binds K a.fdLawRight ["_law_pool_here"] []
  gLaw : mg "law" = some (.ref a.Law)
  kLaw : PySem.W.keepIn K (.ref a.Law) = true
  fLaw : Fun K "law" "law" sLaw a.Law a.fdLaw
  bLaw : Binds K a.fdLaw ["_law_cells"] []
  blen : mg "len" = none
  bint : mg "int" = none
  babs : mg "abs" = none
  bdivmod : mg "divmod" = none
  bmin : mg "min" = none
  bmax : mg "max" = none
  bany : mg "any" = none
  brepr : mg "repr" = none
  bisinstance : mg "isinstance" = none
  blist : mg "list" = none
  brange : mg "range" = none
  bValueError : mg "ValueError" = none
  bLookupError : mg "LookupError" = none
  bArithmeticError : mg "ArithmeticError" = none
  bKeyError : mg "KeyError" = none
  bIndexError : mg "IndexError" = none
  bZeroDivisionError : mg "ZeroDivisionError" = none
  mgMostLines : mg "MOST_LINES" = some (.int 3 a.tMostLines)
  mgMostStands : mg "MOST_STANDS" = some (.int 6 a.tMostStands)
  mgMostKeys : mg "MOST_KEYS" = some (.int 3 a.tMostKeys)
  mgMostRows : mg "MOST_ROWS" = some (.int 16 a.tMostRows)
  mgMostConditions : mg "MOST_CONDITIONS" = some (.int 4 a.tMostConditions)
  mgMostDeeds : mg "MOST_DEEDS" = some (.int 4 a.tMostDeeds)
  mgMostPhones : mg "MOST_PHONES" = some (.int 20 a.tMostPhones)
  mgMostShapes : mg "MOST_SHAPES" = some (.int 3000 a.tMostShapes)
  gInvalidNumber : mg "InvalidNumber" = some (.ref a.InvalidNumber)
  gInvalidText : mg "InvalidText" = some (.ref a.InvalidText)
  gInvalidName : mg "InvalidName" = some (.ref a.InvalidName)
  gInvalidWish : mg "InvalidWish" = some (.ref a.InvalidWish)
  gInvalidIndex : mg "InvalidIndex" = some (.ref a.InvalidIndex)
  gInvalidPicture : mg "InvalidPicture" = some (.ref a.InvalidPicture)
  gInvalidEvent : mg "InvalidEvent" = some (.ref a.InvalidEvent)
  gInvalidHearing : mg "InvalidHearing" = some (.ref a.InvalidHearing)
  gNotAHouse : mg "NotAHouse" = some (.ref a.NotAHouse)
  gInvalidStands : mg "InvalidStands" = some (.ref a.InvalidStands)
  gInvalidKeys : mg "InvalidKeys" = some (.ref a.InvalidKeys)
  gInvalidRows : mg "InvalidRows" = some (.ref a.InvalidRows)
  gWrongLine : mg "WrongLine" = some (.ref a.WrongLine)
  gInvalidWeaving : mg "InvalidWeaving" = some (.ref a.InvalidWeaving)
  gUnknownName : mg "UnknownName" = some (.ref a.UnknownName)
  gInUse : mg "InUse" = some (.ref a.InUse)
  gNothingToUndo : mg "NothingToUndo" = some (.ref a.NothingToUndo)
  gTooMany : mg "TooMany" = some (.ref a.TooMany)
  gBroken : mg "Broken" = some (.ref a.Broken)
  gWrongValue : mg "WrongValue" = some (.ref a.WrongValue)
  gWrongState : mg "WrongState" = some (.ref a.WrongState)
  gNoAnswer : mg "NoAnswer" = some (.ref a.NoAnswer)
  cInvalidNumber : XC.ClsGv K a.InvalidNumber a.iInvalidNumber "ValueError" "ValueError.__new__" "ValueError.__init__" [.type "ValueError", .type "Exception", .type "BaseException", .type "object"]
  cInvalidText : XC.ClsGv K a.InvalidText a.iInvalidText "ValueError" "ValueError.__new__" "ValueError.__init__" [.type "ValueError", .type "Exception", .type "BaseException", .type "object"]
  cInvalidName : XC.ClsGv K a.InvalidName a.iInvalidName "ValueError" "ValueError.__new__" "ValueError.__init__" [.type "ValueError", .type "Exception", .type "BaseException", .type "object"]
  cInvalidWish : XC.ClsGv K a.InvalidWish a.iInvalidWish "ValueError" "ValueError.__new__" "ValueError.__init__" [.type "ValueError", .type "Exception", .type "BaseException", .type "object"]
  cInvalidIndex : XC.ClsGv K a.InvalidIndex a.iInvalidIndex "ValueError" "ValueError.__new__" "ValueError.__init__" [.type "ValueError", .type "Exception", .type "BaseException", .type "object"]
  cInvalidPicture : XC.ClsGv K a.InvalidPicture a.iInvalidPicture "ValueError" "ValueError.__new__" "ValueError.__init__" [.type "ValueError", .type "Exception", .type "BaseException", .type "object"]
  cInvalidEvent : XC.ClsGv K a.InvalidEvent a.iInvalidEvent "ValueError" "ValueError.__new__" "ValueError.__init__" [.type "ValueError", .type "Exception", .type "BaseException", .type "object"]
  cInvalidHearing : XC.ClsGv K a.InvalidHearing a.iInvalidHearing "ValueError" "ValueError.__new__" "ValueError.__init__" [.type "ValueError", .type "Exception", .type "BaseException", .type "object"]
  cNotAHouse : XC.ClsGv K a.NotAHouse a.iNotAHouse "ValueError" "ValueError.__new__" "ValueError.__init__" [.type "ValueError", .type "Exception", .type "BaseException", .type "object"]
  cInvalidStands : XC.ClsIx K a.InvalidStands a.iInvalidStands "ValueError" "ValueError.__new__" "ValueError.__init__" [.type "ValueError", .type "Exception", .type "BaseException", .type "object"]
  cInvalidKeys : XC.ClsIx K a.InvalidKeys a.iInvalidKeys "ValueError" "ValueError.__new__" "ValueError.__init__" [.type "ValueError", .type "Exception", .type "BaseException", .type "object"]
  cInvalidRows : XC.ClsIx K a.InvalidRows a.iInvalidRows "ValueError" "ValueError.__new__" "ValueError.__init__" [.type "ValueError", .type "Exception", .type "BaseException", .type "object"]
  cWrongLine : XC.ClsIx K a.WrongLine a.iWrongLine "ValueError" "ValueError.__new__" "ValueError.__init__" [.type "ValueError", .type "Exception", .type "BaseException", .type "object"]
  cInvalidWeaving : XC.ClsIx K a.InvalidWeaving a.iInvalidWeaving "ValueError" "ValueError.__new__" "ValueError.__init__" [.type "ValueError", .type "Exception", .type "BaseException", .type "object"]
  cUnknownName : XC.ClsGv K a.UnknownName a.iUnknownName "LookupError" "LookupError.__new__" "LookupError.__init__" [.type "LookupError", .type "Exception", .type "BaseException", .type "object"]
  cInUse : XC.ClsIx K a.InUse a.iInUse "LookupError" "LookupError.__new__" "LookupError.__init__" [.type "LookupError", .type "Exception", .type "BaseException", .type "object"]
  cNothingToUndo : XC.ClsNo K a.NothingToUndo a.iNothingToUndo "LookupError" "LookupError.__new__" "LookupError.__init__" [.type "LookupError", .type "Exception", .type "BaseException", .type "object"]
  cTooMany : XC.ClsMo K a.TooMany a.iTooMany "ArithmeticError" "ArithmeticError.__new__" "ArithmeticError.__init__" [.type "ArithmeticError", .type "Exception", .type "BaseException", .type "object"]
  cBroken : XC.ClsBr K a.Broken a.iBroken "ArithmeticError" "ArithmeticError.__new__" "ArithmeticError.__init__" [.type "ArithmeticError", .type "Exception", .type "BaseException", .type "object"]
  sort : ∀ i C W B, sorts a i = some (C, W, B) → XK.Srt K C W B
  cls : ∀ C, C ∈ owns a → XK.isOwn K C
  nd : (owns a).Nodup
end L2.K01

set_option Elab.async false
set_option maxRecDepth 100000
set_option maxHeartbeats 4000000
namespace L2.K01
open PySem PySem.Spec PyProof.Rows XK Evl
section
variable {P : Program} {w : World} {K : PySem.W.Frag} {mg : Str → Option Value} {base : Heap} {a : Adr}
theorem ok_draw (T : Txt K mg a) : FnOk P w K mg base CX0 1 a.LawDraw a.fdLawDraw ["_law_pool_here", "_law_many"] spDraw := by
  refine T.fLawDraw.ok scLawDraw (fun vs H Q E h => ?_) (fun cdv A outer s H vs Q E hr h => ?_)
  · obtain ⟨p, n, m, rfl, _⟩ := h
    rfl
  · obtain ⟨p, n, m, rfl, ⟨x, y, z, hp, x0, x1, y0, z0, z1⟩, hn, hm1, hm2, k⟩ := h
    refine ⟨_, (pss_cons (ps_asg (pe_op op_add (pe_ix ix_list (pv 0) pe_int (fun _ _ => rfl)) pe_int) (pg_sub (pv 0) pe_int set_list))
      (pss_cons (ps_if (pt_cmpR op_gt (pe_ix ix_list (pv 0) pe_int (fun _ _ => rfl)) pe_int (nomark _)) (pss_cons (ps_asg (pe_callB call_divmod (by rfl) T.bdivmod (by decide +kernel) (pa_cons (pe_ix ix_list (pv 0) pe_int (fun _ _ => rfl)) (pa_cons (pv 1) pa_nil))) (pg_tup (by rfl) (pgs_cons (pg_sub (pv 0) pe_int set_list) (pgs_cons (pg_name (i := 2) scLawDraw.nd rfl (by first | exact Or.inl rfl | exact Or.inr rfl)) pgs_nil))))
      (pss_one (ps_ret (by exact (pv 2))))) pss_nil)
      (pss_cons (ps_asg (pe_op op_mod (pe_callTy call_int1 (by rfl) T.bint (by decide +kernel) (pa_cons (pe_op op_add (pe_op op_add (pe_op op_mul (pe_ix ix_list (pv 0) pe_int (fun _ _ => rfl)) pe_int) (pe_op op_mul (pe_op op_mul (pe_ix ix_list (pv 0) pe_int (fun _ _ => rfl)) (pe_ix ix_list (pv 0) pe_int (fun _ _ => rfl))) pe_int)) pe_int) pa_nil)) pe_int) (pg_sub (pv 0) pe_int set_list))
      (pss_one (ps_ret (by exact (pe_op op_mod (pe_callTy call_int1 (by rfl) T.bint (by decide +kernel) (pa_cons (pe_op op_add (pe_op op_fdiv (pe_ix ix_list (pv 0) pe_int (fun _ _ => rfl)) pe_int) (pe_op op_fdiv (pe_ix ix_list (pv 0) pe_int (fun _ _ => rfl)) pe_int)) pa_nil)) (pv 1)))))))), ?_⟩
    refine s_setL (j := 2) hp (ev_op (ev_op (ev_var rfl) ev_c (rv_ixL (sq_of hp) rfl)) ev_c rv_I0) (ev_var rfl) ev_c (by show 2 < 3; decide) fun H1 e1 => ?_
    have hp1 : (upd H1 p (.lst [.int x, .int y, .int (z + 1)])) p = some (.lst [.int x, .int y, .int (z + 1)]) := upd_same
    refine s_if (b := decide (0 < y)) (et_test (ev_op (ev_op (ev_var rfl) ev_c (rv_ixL (sq_of hp1) rfl)) ev_c rv_I0)) (fun hy H2 e2 => ?_) fun hy H2 e2 => ?_
    · have hp2 := e2 _ _ hp1
      have y0' : 0 < y := of_decide_eq_true hy
      refine ⟨_, rfl, p, _, _, _, rfl, rfl, sq_of hp2, rfl, _, rfl, y, m, rfl, ⟨by omega, by omega⟩, fun q hq => ?_⟩
      have np : p ≠ q := ne_of_none hp2 hq
      refine ⟨q, _, rfl, st_of upd_same, rfl, ?_⟩
      have hp3 : (upd H2 q (.tup [.int (y / m), .int (y % m)])) p = some (.lst [.int x, .int y, .int (z + 1)]) := by
        rw [upd_ne np]
        exact hp2
      refine ⟨_, _, rfl, _, rfl, p, _, 1, 1, rfl, rfl, hp3, rfl, _, _, rfl, rfl, _, rfl, ?_⟩
      refine k _ _ ⟨x, y / m, z + 1, upd_same, x0, x1, Int.ediv_nonneg y0 (by omega), by omega, by omega⟩ ?_ (Int.emod_nonneg _ (by omega)) (Int.emod_lt_of_pos _ (by omega))
      exact (((But.of e1).trans But.upd).trans (But.of e2)).trans ((But.of (Ex.new hq)).trans But.upd)
    · have hp2 := e2 _ _ hp1
      have v0 : ∀ H', Ev (tVar 0) (start NLawDraw [.ref p, .int m]) H' (.ref p) := fun H' => ev_var rfl
      have v1 : ∀ H', Ev (tVar 1) (start NLawDraw [.ref p, .int m]) H' (.int m) := fun H' => ev_var rfl
      have e0 : ∀ i : Int, RC (fun xs H Q => (∃ i, xs = [V.int i] ∧ Q (V.int i) H) ∨ ∃ k, xs = [V.bl k] ∧ Q (V.int (if k = true then 1 else 0)) H) [.int i] H2 (.int i) :=
        fun i H4 e4 R q => .inl ⟨_, rfl, q _ (Ex.refl _)⟩
      dsimp only [tNext, tSeq]
      refine s_setL (j := 0) (v := .int ((x * 39373 + (z + 1) * (z + 1) * 7919 + 271) % 2147483563)) hp2 ?_ (v0 _) ev_c (by show 0 < 3; decide) fun H3 e3 => ?_
      · refine ev_op (ev_cb (ea_cons ?_ ea_nil) (e0 _)) ev_c (rv_I (show (0 : Int) < 2147483563 by decide))
        refine ev_op (ev_op ?_ ?_ rv_I0) ev_c rv_I0
        · exact ev_op (ev_op (v0 _) ev_c (rv_ixL (sq_of hp2) rfl)) ev_c (rv_I (.inr ⟨by decide, by decide⟩))
        · refine ev_op (ev_op (ev_op (v0 _) ev_c (rv_ixL (sq_of hp2) rfl)) (ev_op (v0 _) ev_c (rv_ixL (sq_of hp2) rfl)) (rv_I ?_)) ev_c (rv_I (.inr ⟨by decide, by decide⟩))
          exact .inl ⟨by omega, by omega⟩
      obtain ⟨u, hu⟩ : ∃ u, u = (x * 39373 + (z + 1) * (z + 1) * 7919 + 271) % 2147483563 := ⟨_, rfl⟩
      have u0 : 0 ≤ u := by rw [hu]; exact Int.emod_nonneg _ (by decide)
      have u1 : u < 2147483563 := by rw [hu]; exact Int.emod_lt_of_pos _ (by decide)
      have hp4 : (upd H3 p (.lst [.int u, .int y, .int (z + 1)])) p = some (.lst [.int u, .int y, .int (z + 1)]) := upd_same
      rw [← hu]
      dsimp only [List.set]
      have e0' : ∀ i : Int, RC (fun xs H Q => (∃ i, xs = [V.int i] ∧ Q (V.int i) H) ∨ ∃ k, xs = [V.bl k] ∧ Q (V.int (if k = true then 1 else 0)) H) [.int i] (upd H3 p (.lst [.int u, .int y, .int (z + 1)])) (.int i) :=
        fun i H4 e4 R q => .inl ⟨_, rfl, q _ (Ex.refl _)⟩
      refine s_ret (v := .int ((u / 97 + u / 65521) % m)) ?_ fun H5 e5 => ?_
      · refine ev_op (ev_cb (ea_cons ?_ ea_nil) (e0' _)) (v1 _) (rv_I (show (0 : Int) < m by omega))
        refine ev_op ?_ ?_ rv_I0
        · exact ev_op (ev_op (v0 _) ev_c (rv_ixL (sq_of hp4) rfl)) ev_c (rv_I ⟨by decide, by decide⟩)
        · exact ev_op (ev_op (v0 _) ev_c (rv_ixL (sq_of hp4) rfl)) ev_c (rv_I ⟨by decide, by decide⟩)
      refine k _ _ ⟨u, y, z + 1, e5 _ _ hp4, u0, u1, y0, by omega, by omega⟩ ?_ (Int.emod_nonneg _ (by omega)) (Int.emod_lt_of_pos _ (by omega))
      exact ((((But.of e1).trans But.upd).trans (But.of e2)).trans (But.of e3)).trans (But.upd.trans (But.of e5))
end
end L2.K01

set_option Elab.async false
set_option maxRecDepth 100000
set_option maxHeartbeats 4000000
namespace L2.K01
open PySem PySem.Spec PyProof.Rows XK Evl
section
variable {P : Program} {w : World} {K : PySem.W.Frag} {mg : Str → Option Value} {base : Heap} {a : Adr}
theorem ok_pick (T : Txt K mg a) : FnOk P w K mg base CX0 2 a.LawPick a.fdLawPick ["_law_pool_here", "_law_things"] spPick := by
  have GLawDraw : FnOk P w K mg base CX0 1 a.LawDraw a.fdLawDraw ["_law_pool_here", "_law_many"] spDraw := ok_draw T
  refine T.fLawPick.ok scLawPick (fun vs H Q E h => ?_) (fun cdv A outer s H vs Q E hr h => ?_)
  · obtain ⟨p, l, n, xs, rfl, _⟩ := h
    rfl
  · obtain ⟨p, l, n, xs, rfl, hp, hn, np, hl, h1, h2, k⟩ := h
    refine ⟨_, (pss_one (ps_ret (by exact (pe_ix ix_list (pv 1) (pe_call GLawDraw (hr.mono (by decide)) (by rfl) T.gLawDraw T.kLawDraw T.bLawDraw .nil pass0 (pa_cons (pv 0) (pa_cons (pe_callB call_len (by rfl) T.blen (by decide +kernel) (pa_cons (pv 1) pa_nil)) pa_nil))) (fun _ _ => rfl))))), ?_⟩
    refine ⟨_, rfl, _, rfl, _, rfl, _, xs.length, rfl, .inl ⟨xs, SqL.of hl, rfl⟩, p, n, _, rfl, hp, hn, by omega, by omega, fun H' r hp' b r0 r1 => ?_⟩
    obtain ⟨j, rfl⟩ := Int.eq_ofNat_of_zero_le r0
    have hj : j < xs.length := by omega
    refine ⟨l, xs, (j : Int), xs[j], rfl, rfl, SqL.of (b l _ np hl), ?_, ?_⟩
    · exact atI_nat (List.getElem?_eq_getElem hj)
    · exact k H' _ hp' b (List.getElem_mem hj)
theorem ok_pool (T : Txt K mg a) : FnOk P w K mg base CX0 1 a.LawPool a.fdLawPool ["_law_cells", "_law_turn"] (spPool K) := by
  refine T.fLawPool.ok scLawPool (fun vs H Q E h => ?_) (fun cdv A outer s H vs Q E hr h => ?_)
  · obtain ⟨c, ns, k, rfl, _⟩ := h
    rfl
  · obtain ⟨c, ns, k, rfl, hS, hlen, k0, k1, q⟩ := h
    refine ⟨_, (pss_cons (ps_set (i := 2) scLawPool.nd rfl (by first | exact Or.inl rfl | exact Or.inr rfl) (by exact (pe_ifExp (pt_cmpR op_lt (pv 1) (pe_callB call_len (by rfl) T.blen (by decide +kernel) (pa_cons (pv 0) pa_nil)) (nomark _)) (pe_callTy call_int1 (by rfl) T.bint (by decide +kernel) (pa_cons (pe_ix ix_list (pv 0) (pv 1) (fun _ _ => rfl)) pa_nil)) pe_int)))
      (pss_cons (ps_set (i := 3) scLawPool.nd rfl (by first | exact Or.inl rfl | exact Or.inr rfl) (by exact (pe_op op_mul pe_int (pe_op op_add (pv 1) pe_int))))
      (pss_cons (ps_for PassesOwn.never rfl (pi_list (pe_slice sl_list (pv 0) po_none (po_some pe_int))) (pg_name (i := 4) scLawPool.nd rfl (by first | exact Or.inl rfl | exact Or.inr rfl)) (pss_one (ps_set (i := 3) scLawPool.nd rfl (by first | exact Or.inl rfl | exact Or.inr rfl) (by exact (pe_op op_mod (pe_callTy call_int1 (by rfl) T.bint (by decide +kernel) (pa_cons (pe_op op_add (pe_op op_mul (pv 3) pe_int) (pv 4)) pa_nil)) pe_int)))))
      (pss_one (ps_ret (by exact (pe_lst (pa_cons (pe_op op_mod (pe_callTy call_int1 (by rfl) T.bint (by decide +kernel) (pa_cons (pe_op op_add (pe_op op_mul (pv 3) pe_int) (pv 2)) pa_nil)) pe_int) (pa_cons (pe_ifExp (PW.pt (pw_or (pt_cmpR op_lt (pv 2) pe_int (nomark _)) (pw_or1 (pt_cmpR op_ge (pv 2) (pe_op op_pow pe_int pe_int) (nomark _))))) (pe_callB call_abs (by rfl) T.babs (by decide +kernel) (pa_cons (pv 2) pa_nil)) pe_int) (pa_cons pe_int pa_nil)))))))))), ?_⟩
    obtain ⟨x, hx⟩ : ∃ x : Int, x = if k < (ns.length : Int) then ns.getD k.toNat 0 else 0 := ⟨_, rfl⟩
    have hS' : ∀ H', Ex H H' → SqL K H' c (ns.map V.int) := fun H' e => ex_l e hS
    have st : start NLawPool [.ref c, .int k] = [some (.ref c), some (.int k), none, none, none] := rfl
    have e0 : ∀ (i : Int) H', RC (fun xs H Q => (∃ i, xs = [V.int i] ∧ Q (V.int i) H) ∨ ∃ k, xs = [V.bl k] ∧ Q (V.int (if k = true then 1 else 0)) H) [.int i] H' (.int i) :=
      fun i H' H4 e4 R q => .inl ⟨_, rfl, q _ (Ex.refl _)⟩
    refine s_asg (v := .int x) ?_ fun H1 e1 => ?_
    · refine ev_if (b := decide (k < (ns.length : Int))) ?_ (fun hb => ?_) fun hb => ?_
      · refine et_test (ev_op (ev_var rfl) (ev_cb (ea_cons (ev_var rfl) ea_nil) (z := .int (ns.length : Int)) ?_) rv_I0)
        intro H2 e2 R hR
        exact ⟨_, ns.length, rfl, .inl ⟨_, hS' H2 e2, by rw [List.length_map]⟩, hR _ (Ex.refl _)⟩
      · have hk := of_decide_eq_true hb
        rw [if_pos hk] at hx
        refine ev_cb (ea_cons (ev_op (ev_var rfl) (ev_var rfl) (rv_ixL hS ?_)) ea_nil) (e0 x H)
        obtain ⟨j, rfl⟩ := Int.eq_ofNat_of_zero_le k0
        refine atI_nat ?_
        have hj : j < ns.length := by omega
        have ex : x = ns[j] := by
          rw [hx]
          simp [List.getD, hj]
        rw [List.getElem?_map, List.getElem?_eq_getElem hj, ex]
        rfl
      · have hk := of_decide_eq_false hb
        rw [if_neg hk] at hx
        rw [hx]
        exact ev_c
    · refine s_asg (v := .int (15485863 * (k + 1))) (ev_op ev_c (ev_op (ev_var rfl) ev_c rv_I0) (rv_I (.inl ⟨by decide, by decide⟩))) fun H2 e2 => ?_
      refine s_forNL (xs := cutV (ns.map V.int) none (some 3)) (el_sl (ev_var rfl) eo_none (eo_some ev_c) (hS' H2 (e1.trans e2)))
        (fun p i σ H' => ∃ (sd : Int) (v : Option V), σ = [some (.ref c), some (.int k), some (.int x), some (.int sd), v] ∧ 0 ≤ sd ∧ sd < 1000000000000 ∧ Ex H H' ∧ H' p = some (.lst (cutV (ns.map V.int) none (some 3)))) ?_ ?_ ?_ ?_
      · intro p H3 hp e3 h3
        exact ⟨_, _, rfl, by omega, by omega, (e1.trans e2).trans e3, h3⟩
      · rintro p i σ H' hi ⟨_, _, _, _, _, _, h3⟩
        exact sq_of h3
      · rintro p i y σ H' hy ⟨sd, v, rfl, s0, s1, e3, h3⟩
        obtain ⟨z, rfl⟩ : ∃ z, y = V.int z := by
          have h1 : y ∈ ns.map V.int := List.mem_of_mem_drop (List.mem_of_mem_take (List.mem_of_getElem? hy))
          obtain ⟨z, _, ez⟩ := List.mem_map.mp h1
          exact ⟨z, ez.symm⟩
        show tAsg _ _ _ _ _
        refine s_asg (v := .int ((sd * 69997 + z) % 2147483563)) ?_ fun H4 e4 => ?_
        · refine ev_op (ev_cb (ea_cons (ev_op (ev_op (ev_var rfl) ev_c (rv_I (.inr ⟨by decide, by decide⟩))) (ev_var rfl) rv_I0) ea_nil) (e0 _ _)) ev_c (rv_I (show (0 : Int) < 2147483563 by decide))
        · exact ⟨_, _, rfl, Int.emod_nonneg _ (by decide), Int.lt_trans (Int.emod_lt_of_pos _ (by decide)) (by decide), e3.trans e4, e4 _ _ h3⟩
      · rintro p σ H' ⟨sd, v, rfl, s0, s1, e3, h3⟩
        obtain ⟨b, hb, b0⟩ : ∃ b : Int, b = (if decide (x < 0) || decide ((10 : Int) ^ 18 ≤ x) then (if x < 0 then -x else x) else 0) ∧ 0 ≤ b := by
          refine ⟨_, rfl, ?_⟩
          split
          · split <;> omega
          · omega
        dsimp only
        refine s_retL (xs := [.int ((sd * 69997 + x) % 2147483563), .int b, .int 0]) ?_ fun p2 H4 hp2 e4 h4 => ?_
        · refine el_lst (ea_cons ?_ (ea_cons ?_ (ea_cons ev_c ea_nil))) (by show 3 ≤ 100000; decide)
          · refine ev_op (ev_cb (ea_cons (ev_op (ev_op (ev_var rfl) ev_c (rv_I (.inr ⟨by decide, by decide⟩))) (ev_var rfl) rv_I0) ea_nil) (e0 _ _)) ev_c (rv_I (show (0 : Int) < 2147483563 by decide))
          · refine ev_if (b := decide (x < 0) || decide ((10 : Int) ^ 18 ≤ x)) (et_or (et_test (ev_op (ev_var rfl) ev_c rv_I0)) fun _ => et_test (ev_op (ev_var rfl) (ev_op ev_c ev_c (rv_I ⟨by decide, by decide, by decide⟩)) rv_I0)) (fun hc => ?_) fun hc => ?_
            · rw [hc, if_pos rfl] at hb
              rw [hb]
              exact ev_cb (ea_cons (ev_var rfl) ea_nil) fun H5 e5 R hR => ⟨_, rfl, hR _ (Ex.refl _)⟩
            · rw [hc, if_neg Bool.false_ne_true] at hb
              rw [hb]
              exact ev_c
        · refine q _ _ (fresh_back e3 hp2) (e3.trans e4) ⟨_, b, 0, h4, Int.emod_nonneg _ (by decide), Int.emod_lt_of_pos _ (by decide), b0, by omega, by omega⟩
end
end L2.K01

set_option Elab.async false
set_option maxRecDepth 100000
set_option maxHeartbeats 4000000
set_option linter.all false
namespace L2.K01
open PySem PySem.Spec PyProof.Rows XK Evl XC
/-- at e: an exception of the i-th class -/
structure ErrAt (a : Adr) (H : Hp) (e : Addr) (i : Nat) (C : Addr) (fs : List (Str × V)) : Prop where
  lt : i < 19
  is : ∃ W B, sorts a i = some (C, W, B)
  at_ : ∃ d, H e = some (exo e C d) ∧ (∀ z, d = some z → H z = some (.xd fs)) ∧ (i ≠ 16 → d ≠ none)
theorem ErrAt.ex {a : Adr} {H H' : Hp} {e : Addr} {i : Nat} {C : Addr} {fs : List (Str × V)} (h : ErrAt a H e i C fs) (x : Ex H H') : ErrAt a H' e i C fs := by
  obtain ⟨d, h1, h2, h3⟩ := h.at_
  exact ⟨h.lt, h.is, d, x _ _ h1, fun z hz => x _ _ (h2 z hz), h3⟩
theorem nodupAt {l : List Addr} (h : l.Nodup) {i j : Nat} {x y : Addr} (hi : l[i]? = some x) (hj : l[j]? = some y) : decide (y = x) = decide (j = i) := by
  obtain ⟨i1, i2⟩ := List.getElem?_eq_some_iff.mp hi
  obtain ⟨j1, j2⟩ := List.getElem?_eq_some_iff.mp hj
  by_cases e : j = i
  · subst e
    rw [hi] at hj
    cases hj
    simp
  · have : y ≠ x := fun z => e ((List.getElem_inj h).mp (j2.trans (z.trans i2.symm)))
    simp [e, this]
/-- the base class's place among the classes -/
def up (i : Nat) : Nat := if i < 14 then 19 else if i < 17 then 20 else 21
theorem sorts_at (a : Adr) {i : Nat} {C W : Addr} {B : String} (h : sorts a i = some (C, W, B)) : (owns a)[i]? = some C ∧ (owns a)[up i]? = some W ∧ B = (if i < 14 then "ValueError" else if i < 17 then "LookupError" else "ArithmeticError") ∧ i < 19 := by
  match i, h with
  | 0, h => cases h; exact ⟨rfl, rfl, rfl, by decide⟩
  | 1, h => cases h; exact ⟨rfl, rfl, rfl, by decide⟩
  | 2, h => cases h; exact ⟨rfl, rfl, rfl, by decide⟩
  | 3, h => cases h; exact ⟨rfl, rfl, rfl, by decide⟩
  | 4, h => cases h; exact ⟨rfl, rfl, rfl, by decide⟩
  | 5, h => cases h; exact ⟨rfl, rfl, rfl, by decide⟩
  | 6, h => cases h; exact ⟨rfl, rfl, rfl, by decide⟩
  | 7, h => cases h; exact ⟨rfl, rfl, rfl, by decide⟩
  | 8, h => cases h; exact ⟨rfl, rfl, rfl, by decide⟩
  | 9, h => cases h; exact ⟨rfl, rfl, rfl, by decide⟩
  | 10, h => cases h; exact ⟨rfl, rfl, rfl, by decide⟩
  | 11, h => cases h; exact ⟨rfl, rfl, rfl, by decide⟩
  | 12, h => cases h; exact ⟨rfl, rfl, rfl, by decide⟩
  | 13, h => cases h; exact ⟨rfl, rfl, rfl, by decide⟩
  | 14, h => cases h; exact ⟨rfl, rfl, rfl, by decide⟩
  | 15, h => cases h; exact ⟨rfl, rfl, rfl, by decide⟩
  | 16, h => cases h; exact ⟨rfl, rfl, rfl, by decide⟩
  | 17, h => cases h; exact ⟨rfl, rfl, rfl, by decide⟩
  | 18, h => cases h; exact ⟨rfl, rfl, rfl, by decide⟩
  | n + 19, h => cases h
/-- what isinstance says of the i-th class's exception and the j-th class -/
theorem isAt {K : PySem.W.Frag} {mg : Str → Option Value} {a : Adr} (T : Txt K mg a) {i j : Nat} {C W D : Addr} {B : String} (h : sorts a i = some (C, W, B)) (hj : (owns a)[j]? = some D) :
    PySem.W.kitOne K (.ref C) (.ref D) = some (decide (j = i ∨ j = up i)) := by
  obtain ⟨h1, h2, _, _⟩ := sorts_at a h
  rw [kit_own (T.sort _ _ _ _ h) (T.cls D (List.mem_of_getElem? hj))]
  have e1 := nodupAt T.nd h1 hj
  have e2 := nodupAt T.nd h2 hj
  have e1' : (D = C) ↔ (j = i) := by simpa using e1
  have e2' : (D = W) ↔ (j = up i) := by simpa using e2
  simp only [e1', e2']
def bsAt (i : Nat) : List Bool := (List.range 19).map fun j => decide (j = i ∨ j = up i)
def bb (i : Nat) : List Bool := [decide (i < 14), decide (13 < i ∧ i < 17), decide (16 < i)]
theorem b19 : ∀ i, i < 19 → decide (19 = i ∨ 19 = up i) = decide (i < 14) := by decide
theorem b20 : ∀ i, i < 19 → decide (20 = i ∨ 20 = up i) = decide (13 < i ∧ i < 17) := by decide
theorem b21 : ∀ i, i < 19 → decide (21 = i ∨ 21 = up i) = decide (16 < i) := by decide
theorem c0 : ∀ i, i < 19 → [if i < 14 then "ValueError" else if i < 17 then "LookupError" else "ArithmeticError", "Exception", "BaseException", "object"].contains "ValueError" = decide (i < 14) := by decide +kernel
theorem c1 : ∀ i, i < 19 → [if i < 14 then "ValueError" else if i < 17 then "LookupError" else "ArithmeticError", "Exception", "BaseException", "object"].contains "LookupError" = decide (13 < i ∧ i < 17) := by decide +kernel
theorem c2 : ∀ i, i < 19 → [if i < 14 then "ValueError" else if i < 17 then "LookupError" else "ArithmeticError", "Exception", "BaseException", "object"].contains "ArithmeticError" = decide (16 < i) := by decide +kernel
theorem d0 : ∀ i : Nat, i < 19 → V.bl (decide ((i : Int) < 14)) = V.bl (decide (i < 14)) := by decide
theorem d1 : ∀ i : Nat, i < 19 → V.bl (decide ((13 : Int) < i) && decide ((i : Int) < 17)) = V.bl (decide (13 < i ∧ i < 17)) := by decide
theorem d2 : ∀ i : Nat, i < 19 → V.bl (decide ((16 : Int) < i)) = V.bl (decide (16 < i)) := by decide
theorem cnt : ∀ i, i < 19 → (((bsAt i).map V.bl).countP fun z => eqV z (.bl true)) = 1 := by decide +kernel
theorem idx : ∀ i, i < 19 → (bsAt i)[i]? = some true ∧ ∀ m, m < i → (bsAt i)[m]? = some false := by decide +kernel
theorem flatBools : ∀ bs : List Bool, (bs.map V.bl).all flatV = true
  | [] => rfl
  | b :: bs => by rw [List.map_cons, List.all_cons, flatBools bs]; rfl
theorem ev_count {K : PySem.W.Frag} {σ : L2.St} {H : Hp} {ta : TE} {l : Addr} {bs : List Bool} (ha : Ev ta σ H (.ref l)) (hl : H l = some (.lst (bs.map V.bl))) :
    Ev (tBM K "list" (rCountF K) ta (tCons (tC (.bl true)) tNil)) σ H (.int (((bs.map V.bl).countP fun z => eqV z (.bl true) : Nat) : Int)) := fun H1 e Q q =>
  ha H1 e _ fun H2 e2 => ⟨.inl ⟨rfl, _, sq_of ((e.trans e2) _ _ hl)⟩, l, _, .bl true, rfl, rfl, sq_of ((e.trans e2) _ _ hl), rfl, flatBools bs, q H2 e2⟩
theorem ev_index {K : PySem.W.Frag} {σ : L2.St} {H : Hp} {ta : TE} {l : Addr} {bs : List Bool} {i : Nat} (ha : Ev ta σ H (.ref l)) (hl : H l = some (.lst (bs.map V.bl)))
    (hi : bs[i]? = some true ∧ ∀ m, m < i → bs[m]? = some false) : Ev (tBM K "list" (rIndex K) ta (tCons (tC (.bl true)) tNil)) σ H (.int (i : Int)) := fun H1 e Q q =>
  ha H1 e _ fun H2 e2 => ⟨.inl ⟨rfl, _, sq_of ((e.trans e2) _ _ hl)⟩, l, _, .bl true, i, .bl true, rfl, rfl, sq_of ((e.trans e2) _ _ hl), rfl, flatBools bs,
    by rw [List.getElem?_map, hi.1]; rfl, rfl, fun m z hm hz => by
      rw [List.getElem?_map, hi.2 m hm] at hz
      cases hz
      rfl, q H2 e2⟩
def spError (a : Adr) : Sp := fun vs H Q _ => ∃ (e : Addr) (i : Nat) (C : Addr) (fs : List (Str × V)), vs = [.ref e] ∧ ErrAt a H e i C fs ∧ ∀ H', Ex H H' → Q (.int (i : Int)) H'
section
variable {P : Program} {w : World} {K : PySem.W.Frag} {mg : Str → Option Value} {base : Heap} {a : Adr}
theorem ev_own (T : Txt K mg a) {ta : TE} {σ : L2.St} {H : Hp} {e : Addr} {i : Nat} {C : Addr} {fs : List (Str × V)} (hE : ErrAt a H e i C fs) (ha : Ev ta σ H (.ref e)) (j : Nat) {D : Addr} (hj : (owns a)[j]? = some D) :
    Ev (tCB (rIsX K) (tCons ta (tCons (tC (.ref D)) tNil))) σ H (.bl (decide (j = i ∨ j = up i))) := by
  obtain ⟨W, B, h⟩ := hE.is
  obtain ⟨d, h1, h2, _⟩ := hE.at_
  exact ev_isX ha h1 (fun z hz => ⟨fs, h2 z hz⟩) (T.sort _ _ _ _ h).is (.own D) (isAt T h hj)
theorem ev_blt (T : Txt K mg a) {ta : TE} {σ : L2.St} {H : Hp} {e : Addr} {i : Nat} {C : Addr} {fs : List (Str × V)} (hE : ErrAt a H e i C fs) (ha : Ev ta σ H (.ref e)) (N : String) {b : Bool} (hm : PySem.W.kitMeta N = true)
    (hb : [if i < 14 then "ValueError" else if i < 17 then "LookupError" else "ArithmeticError", "Exception", "BaseException", "object"].contains N = b) :
    Ev (tCB (rIsX K) (tCons ta (tCons (tC (.ty N)) tNil))) σ H (.bl b) := by
  obtain ⟨W, B, h⟩ := hE.is
  obtain ⟨d, h1, h2, _⟩ := hE.at_
  have S := T.sort _ _ _ _ h
  have k := kit_blt S hm
  obtain ⟨_, _, rfl, _⟩ := sorts_at a h
  rw [hb] at k
  exact ev_isX ha h1 (fun z hz => ⟨fs, h2 z hz⟩) S.is (.ty N) k
theorem ok_error (T : Txt K mg a) : FnOk P w K mg base CX0 1 a.LawError a.fdLawError ["_law_e"] (spError a) := by
  refine T.fLawError.ok scLawError (fun vs H Q E h => ?_) (fun cdv A outer s H vs Q E hr h => ?_)
  · obtain ⟨e, i, C, fs, rfl, _⟩ := h
    rfl
  · obtain ⟨e, i, C, fs, rfl, hE, q⟩ := h
    refine ⟨_, (pss_cons (ps_set (i := 1) scLawError.nd rfl (by first | exact Or.inl rfl | exact Or.inr rfl) (by exact (pe_lst (pa_cons (pe_callB XK.call_isX (by rfl) T.bisinstance (by decide +kernel) (pa_cons (pv 0) (pa_cons (pe_glob (v := .ref a.InvalidNumber) rfl T.gInvalidNumber rfl) pa_nil))) (pa_cons (pe_callB XK.call_isX (by rfl) T.bisinstance (by decide +kernel) (pa_cons (pv 0) (pa_cons (pe_glob (v := .ref a.InvalidText) rfl T.gInvalidText rfl) pa_nil))) (pa_cons (pe_callB XK.call_isX (by rfl) T.bisinstance (by decide +kernel) (pa_cons (pv 0) (pa_cons (pe_glob (v := .ref a.InvalidName) rfl T.gInvalidName rfl) pa_nil))) pa_nil))))))
      (pss_cons (ps_set (i := 1) scLawError.nd rfl (by first | exact Or.inl rfl | exact Or.inr rfl) (by exact (pe_op op_cat (pv 1) (pe_lst (pa_cons (pe_callB XK.call_isX (by rfl) T.bisinstance (by decide +kernel) (pa_cons (pv 0) (pa_cons (pe_glob (v := .ref a.InvalidWish) rfl T.gInvalidWish rfl) pa_nil))) (pa_cons (pe_callB XK.call_isX (by rfl) T.bisinstance (by decide +kernel) (pa_cons (pv 0) (pa_cons (pe_glob (v := .ref a.InvalidIndex) rfl T.gInvalidIndex rfl) pa_nil))) (pa_cons (pe_callB XK.call_isX (by rfl) T.bisinstance (by decide +kernel) (pa_cons (pv 0) (pa_cons (pe_glob (v := .ref a.InvalidPicture) rfl T.gInvalidPicture rfl) pa_nil))) pa_nil)))))))
      (pss_cons (ps_set (i := 1) scLawError.nd rfl (by first | exact Or.inl rfl | exact Or.inr rfl) (by exact (pe_op op_cat (pv 1) (pe_lst (pa_cons (pe_callB XK.call_isX (by rfl) T.bisinstance (by decide +kernel) (pa_cons (pv 0) (pa_cons (pe_glob (v := .ref a.InvalidEvent) rfl T.gInvalidEvent rfl) pa_nil))) (pa_cons (pe_callB XK.call_isX (by rfl) T.bisinstance (by decide +kernel) (pa_cons (pv 0) (pa_cons (pe_glob (v := .ref a.InvalidHearing) rfl T.gInvalidHearing rfl) pa_nil))) (pa_cons (pe_callB XK.call_isX (by rfl) T.bisinstance (by decide +kernel) (pa_cons (pv 0) (pa_cons (pe_glob (v := .ref a.NotAHouse) rfl T.gNotAHouse rfl) pa_nil))) pa_nil)))))))
      (pss_cons (ps_set (i := 1) scLawError.nd rfl (by first | exact Or.inl rfl | exact Or.inr rfl) (by exact (pe_op op_cat (pv 1) (pe_lst (pa_cons (pe_callB XK.call_isX (by rfl) T.bisinstance (by decide +kernel) (pa_cons (pv 0) (pa_cons (pe_glob (v := .ref a.InvalidStands) rfl T.gInvalidStands rfl) pa_nil))) (pa_cons (pe_callB XK.call_isX (by rfl) T.bisinstance (by decide +kernel) (pa_cons (pv 0) (pa_cons (pe_glob (v := .ref a.InvalidKeys) rfl T.gInvalidKeys rfl) pa_nil))) (pa_cons (pe_callB XK.call_isX (by rfl) T.bisinstance (by decide +kernel) (pa_cons (pv 0) (pa_cons (pe_glob (v := .ref a.InvalidRows) rfl T.gInvalidRows rfl) pa_nil))) pa_nil)))))))
      (pss_cons (ps_set (i := 1) scLawError.nd rfl (by first | exact Or.inl rfl | exact Or.inr rfl) (by exact (pe_op op_cat (pv 1) (pe_lst (pa_cons (pe_callB XK.call_isX (by rfl) T.bisinstance (by decide +kernel) (pa_cons (pv 0) (pa_cons (pe_glob (v := .ref a.WrongLine) rfl T.gWrongLine rfl) pa_nil))) (pa_cons (pe_callB XK.call_isX (by rfl) T.bisinstance (by decide +kernel) (pa_cons (pv 0) (pa_cons (pe_glob (v := .ref a.InvalidWeaving) rfl T.gInvalidWeaving rfl) pa_nil))) (pa_cons (pe_callB XK.call_isX (by rfl) T.bisinstance (by decide +kernel) (pa_cons (pv 0) (pa_cons (pe_glob (v := .ref a.UnknownName) rfl T.gUnknownName rfl) pa_nil))) pa_nil)))))))
      (pss_cons (ps_set (i := 1) scLawError.nd rfl (by first | exact Or.inl rfl | exact Or.inr rfl) (by exact (pe_op op_cat (pv 1) (pe_lst (pa_cons (pe_callB XK.call_isX (by rfl) T.bisinstance (by decide +kernel) (pa_cons (pv 0) (pa_cons (pe_glob (v := .ref a.InUse) rfl T.gInUse rfl) pa_nil))) (pa_cons (pe_callB XK.call_isX (by rfl) T.bisinstance (by decide +kernel) (pa_cons (pv 0) (pa_cons (pe_glob (v := .ref a.NothingToUndo) rfl T.gNothingToUndo rfl) pa_nil))) (pa_cons (pe_callB XK.call_isX (by rfl) T.bisinstance (by decide +kernel) (pa_cons (pv 0) (pa_cons (pe_glob (v := .ref a.TooMany) rfl T.gTooMany rfl) pa_nil))) pa_nil)))))))
      (pss_cons (ps_expr (pe_bm PySem.F.plainAttrs_list PySem.F.slot_list_append PySem.F.type_list_append mt_append (pv 1) (pa_cons (pe_callB XK.call_isX (by rfl) T.bisinstance (by decide +kernel) (pa_cons (pv 0) (pa_cons (pe_glob (v := .ref a.Broken) rfl T.gBroken rfl) pa_nil))) pa_nil)))
      (pss_cons (ps_set (i := 2) scLawError.nd rfl (by first | exact Or.inl rfl | exact Or.inr rfl) (by exact (pe_lst (pa_cons (pe_callB XK.call_isX (by rfl) T.bisinstance (by decide +kernel) (pa_cons (pv 0) (pa_cons (pe_glob (v := .ref a.WrongValue) rfl T.gWrongValue rfl) pa_nil))) (pa_cons (pe_callB XK.call_isX (by rfl) T.bisinstance (by decide +kernel) (pa_cons (pv 0) (pa_cons (pe_glob (v := .ref a.WrongState) rfl T.gWrongState rfl) pa_nil))) (pa_cons (pe_callB XK.call_isX (by rfl) T.bisinstance (by decide +kernel) (pa_cons (pv 0) (pa_cons (pe_glob (v := .ref a.NoAnswer) rfl T.gNoAnswer rfl) pa_nil))) pa_nil))))))
      (pss_cons (ps_if (pt_cmpR (op_neD hr.units) (pe_lst (pa_cons (pe_callB XK.call_isX (by rfl) T.bisinstance (by decide +kernel) (pa_cons (pv 0) (pa_cons (pe_bltn (v := .ty "ValueError") (by rfl) T.bValueError (by decide +kernel) rfl) pa_nil))) (pa_cons (pe_callB XK.call_isX (by rfl) T.bisinstance (by decide +kernel) (pa_cons (pv 0) (pa_cons (pe_bltn (v := .ty "LookupError") (by rfl) T.bLookupError (by decide +kernel) rfl) pa_nil))) (pa_cons (pe_callB XK.call_isX (by rfl) T.bisinstance (by decide +kernel) (pa_cons (pv 0) (pa_cons (pe_bltn (v := .ty "ArithmeticError") (by rfl) T.bArithmeticError (by decide +kernel) rfl) pa_nil))) pa_nil)))) (pv 2) (nomark _)) (pss_one (ps_ret (by exact (pe_un un_neg pe_int)))) pss_nil)
      (pss_cons (ps_if (pt_cmpR op_ne (pe_bm PySem.F.plainAttrs_list PySem.F.slot_list_count PySem.F.type_list_count XK.mt_countB (pv 1) (pa_cons pe_bl pa_nil)) pe_int (nomark _)) (pss_one (ps_ret (by exact (pe_un un_neg pe_int)))) pss_nil)
      (pss_cons (ps_set (i := 3) scLawError.nd rfl (by first | exact Or.inl rfl | exact Or.inr rfl) (by exact (pe_bm PySem.F.plainAttrs_list PySem.F.slot_list_index PySem.F.type_list_index mt_index (pv 1) (pa_cons pe_bl pa_nil))))
      (pss_one (ps_ret (by exact (pe_ifExp (pt_cmpR (op_eqD hr.units) (pv 2) (pe_lst (pa_cons (pe_cmpR op_lt (pv 3) pe_int (nomark _)) (pa_cons (pe_chain op_lt op_lt pe_int (pv 3) pe_int) (pa_cons (pe_cmpR op_gt (pv 3) pe_int (nomark _)) pa_nil)))) (nomark _)) (pv 3) (pe_un un_neg pe_int)))))))))))))))), ?_⟩
    have v0 : ∀ σ' : L2.St, σ'[0]? = some (some (.ref e)) → ∀ H', Ev (tVar 0) σ' H' (.ref e) := fun σ' h H' => ev_var h
    have hE0 := hE
    refine s_asgL (xs := [.bl (decide (0 = i ∨ 0 = up i)), .bl (decide (1 = i ∨ 1 = up i)), .bl (decide (2 = i ∨ 2 = up i))]) (el_lst (ea_cons (by exact ev_own T hE (v0 _ (by rfl) _) 0 rfl) (ea_cons (by exact ev_own T hE (v0 _ (by rfl) _) 1 rfl) (ea_cons (by exact ev_own T hE (v0 _ (by rfl) _) 2 rfl) ea_nil))) (by show 3 ≤ 100000; decide)) fun p1 H1 n1 x1 h1 => ?_
    replace hE := hE0.ex x1
    dsimp only
    refine s_asgL (xs := [.bl (decide (0 = i ∨ 0 = up i)), .bl (decide (1 = i ∨ 1 = up i)), .bl (decide (2 = i ∨ 2 = up i))] ++ [.bl (decide (3 = i ∨ 3 = up i)), .bl (decide (4 = i ∨ 4 = up i)), .bl (decide (5 = i ∨ 5 = up i))]) (el_cat (ev_var (by rfl)) h1 (el_lst (ea_cons (by exact ev_own T hE (v0 _ (by rfl) _) 3 rfl) (ea_cons (by exact ev_own T hE (v0 _ (by rfl) _) 4 rfl) (ea_cons (by exact ev_own T hE (v0 _ (by rfl) _) 5 rfl) ea_nil))) (by show 3 ≤ 100000; decide)) (by show 3 + 3 ≤ 100000; decide)) fun p2 H2 n2 y2 h2 => ?_
    have x2 := x1.trans y2
    replace hE := hE0.ex x2
    dsimp only
    refine s_asgL (xs := [.bl (decide (0 = i ∨ 0 = up i)), .bl (decide (1 = i ∨ 1 = up i)), .bl (decide (2 = i ∨ 2 = up i)), .bl (decide (3 = i ∨ 3 = up i)), .bl (decide (4 = i ∨ 4 = up i)), .bl (decide (5 = i ∨ 5 = up i))] ++ [.bl (decide (6 = i ∨ 6 = up i)), .bl (decide (7 = i ∨ 7 = up i)), .bl (decide (8 = i ∨ 8 = up i))]) (el_cat (ev_var (by rfl)) h2 (el_lst (ea_cons (by exact ev_own T hE (v0 _ (by rfl) _) 6 rfl) (ea_cons (by exact ev_own T hE (v0 _ (by rfl) _) 7 rfl) (ea_cons (by exact ev_own T hE (v0 _ (by rfl) _) 8 rfl) ea_nil))) (by show 3 ≤ 100000; decide)) (by show 6 + 3 ≤ 100000; decide)) fun p3 H3 n3 y3 h3 => ?_
    have x3 := x2.trans y3
    replace hE := hE0.ex x3
    dsimp only
    refine s_asgL (xs := [.bl (decide (0 = i ∨ 0 = up i)), .bl (decide (1 = i ∨ 1 = up i)), .bl (decide (2 = i ∨ 2 = up i)), .bl (decide (3 = i ∨ 3 = up i)), .bl (decide (4 = i ∨ 4 = up i)), .bl (decide (5 = i ∨ 5 = up i)), .bl (decide (6 = i ∨ 6 = up i)), .bl (decide (7 = i ∨ 7 = up i)), .bl (decide (8 = i ∨ 8 = up i))] ++ [.bl (decide (9 = i ∨ 9 = up i)), .bl (decide (10 = i ∨ 10 = up i)), .bl (decide (11 = i ∨ 11 = up i))]) (el_cat (ev_var (by rfl)) h3 (el_lst (ea_cons (by exact ev_own T hE (v0 _ (by rfl) _) 9 rfl) (ea_cons (by exact ev_own T hE (v0 _ (by rfl) _) 10 rfl) (ea_cons (by exact ev_own T hE (v0 _ (by rfl) _) 11 rfl) ea_nil))) (by show 3 ≤ 100000; decide)) (by show 9 + 3 ≤ 100000; decide)) fun p4 H4 n4 y4 h4 => ?_
    have x4 := x3.trans y4
    replace hE := hE0.ex x4
    dsimp only
    refine s_asgL (xs := [.bl (decide (0 = i ∨ 0 = up i)), .bl (decide (1 = i ∨ 1 = up i)), .bl (decide (2 = i ∨ 2 = up i)), .bl (decide (3 = i ∨ 3 = up i)), .bl (decide (4 = i ∨ 4 = up i)), .bl (decide (5 = i ∨ 5 = up i)), .bl (decide (6 = i ∨ 6 = up i)), .bl (decide (7 = i ∨ 7 = up i)), .bl (decide (8 = i ∨ 8 = up i)), .bl (decide (9 = i ∨ 9 = up i)), .bl (decide (10 = i ∨ 10 = up i)), .bl (decide (11 = i ∨ 11 = up i))] ++ [.bl (decide (12 = i ∨ 12 = up i)), .bl (decide (13 = i ∨ 13 = up i)), .bl (decide (14 = i ∨ 14 = up i))]) (el_cat (ev_var (by rfl)) h4 (el_lst (ea_cons (by exact ev_own T hE (v0 _ (by rfl) _) 12 rfl) (ea_cons (by exact ev_own T hE (v0 _ (by rfl) _) 13 rfl) (ea_cons (by exact ev_own T hE (v0 _ (by rfl) _) 14 rfl) ea_nil))) (by show 3 ≤ 100000; decide)) (by show 12 + 3 ≤ 100000; decide)) fun p5 H5 n5 y5 h5 => ?_
    have x5 := x4.trans y5
    replace hE := hE0.ex x5
    dsimp only
    refine s_asgL (xs := [.bl (decide (0 = i ∨ 0 = up i)), .bl (decide (1 = i ∨ 1 = up i)), .bl (decide (2 = i ∨ 2 = up i)), .bl (decide (3 = i ∨ 3 = up i)), .bl (decide (4 = i ∨ 4 = up i)), .bl (decide (5 = i ∨ 5 = up i)), .bl (decide (6 = i ∨ 6 = up i)), .bl (decide (7 = i ∨ 7 = up i)), .bl (decide (8 = i ∨ 8 = up i)), .bl (decide (9 = i ∨ 9 = up i)), .bl (decide (10 = i ∨ 10 = up i)), .bl (decide (11 = i ∨ 11 = up i)), .bl (decide (12 = i ∨ 12 = up i)), .bl (decide (13 = i ∨ 13 = up i)), .bl (decide (14 = i ∨ 14 = up i))] ++ [.bl (decide (15 = i ∨ 15 = up i)), .bl (decide (16 = i ∨ 16 = up i)), .bl (decide (17 = i ∨ 17 = up i))]) (el_cat (ev_var (by rfl)) h5 (el_lst (ea_cons (by exact ev_own T hE (v0 _ (by rfl) _) 15 rfl) (ea_cons (by exact ev_own T hE (v0 _ (by rfl) _) 16 rfl) (ea_cons (by exact ev_own T hE (v0 _ (by rfl) _) 17 rfl) ea_nil))) (by show 3 ≤ 100000; decide)) (by show 15 + 3 ≤ 100000; decide)) fun p6 H6 n6 y6 h6 => ?_
    have x6 := x5.trans y6
    replace hE := hE0.ex x6
    dsimp only
    refine s_app (xs := [.bl (decide (0 = i ∨ 0 = up i)), .bl (decide (1 = i ∨ 1 = up i)), .bl (decide (2 = i ∨ 2 = up i)), .bl (decide (3 = i ∨ 3 = up i)), .bl (decide (4 = i ∨ 4 = up i)), .bl (decide (5 = i ∨ 5 = up i)), .bl (decide (6 = i ∨ 6 = up i)), .bl (decide (7 = i ∨ 7 = up i)), .bl (decide (8 = i ∨ 8 = up i)), .bl (decide (9 = i ∨ 9 = up i)), .bl (decide (10 = i ∨ 10 = up i)), .bl (decide (11 = i ∨ 11 = up i)), .bl (decide (12 = i ∨ 12 = up i)), .bl (decide (13 = i ∨ 13 = up i)), .bl (decide (14 = i ∨ 14 = up i)), .bl (decide (15 = i ∨ 15 = up i)), .bl (decide (16 = i ∨ 16 = up i)), .bl (decide (17 = i ∨ 17 = up i))]) h6 (ev_var (by rfl)) (by exact ev_own T hE (v0 _ (by rfl) _) 18 rfl) (by show 18 < 100000; decide) fun H7 y7 => ?_
    have n6' : H p6 = none := fresh_back x5 n6
    have x7 : Ex H (upd H7 p6 (.lst ((bsAt i).map V.bl))) := Ex.mut (x6.trans y7) n6'
    have h7 : (upd H7 p6 (.lst ((bsAt i).map V.bl))) p6 = some (.lst ((bsAt i).map V.bl)) := upd_same
    obtain ⟨G, hG⟩ : ∃ G, G = upd H7 p6 (.lst ((bsAt i).map V.bl)) := ⟨_, rfl⟩
    rw [← hG] at x7 h7
    replace hE := hE0.ex x7
    have lt := hE.lt
    dsimp only
    show tSeq _ _ _ _ (upd H7 p6 (.lst ((bsAt i).map V.bl)))
    rw [← hG]
    have o19 : ∀ {H' : Hp} {σ' : L2.St}, ErrAt a H' e i C fs → σ'[0]? = some (some (.ref e)) → Ev (tCB (rIsX K) (tCons (tVar 0) (tCons (tC (.ref a.WrongValue)) tNil))) σ' H' (.bl (decide (i < 14))) := fun hE' h => ev_is (ev_own T hE' (v0 _ h _) 19 rfl) (by rw [b19 i lt])
    have o20 : ∀ {H' : Hp} {σ' : L2.St}, ErrAt a H' e i C fs → σ'[0]? = some (some (.ref e)) → Ev (tCB (rIsX K) (tCons (tVar 0) (tCons (tC (.ref a.WrongState)) tNil))) σ' H' (.bl (decide (13 < i ∧ i < 17))) := fun hE' h => ev_is (ev_own T hE' (v0 _ h _) 20 rfl) (by rw [b20 i lt])
    have o21 : ∀ {H' : Hp} {σ' : L2.St}, ErrAt a H' e i C fs → σ'[0]? = some (some (.ref e)) → Ev (tCB (rIsX K) (tCons (tVar 0) (tCons (tC (.ref a.NoAnswer)) tNil))) σ' H' (.bl (decide (16 < i))) := fun hE' h => ev_is (ev_own T hE' (v0 _ h _) 21 rfl) (by rw [b21 i lt])
    refine s_asgL (xs := (bb i).map V.bl) (el_lst (ea_cons (o19 hE rfl) (ea_cons (o20 hE rfl) (ea_cons (o21 hE rfl) ea_nil))) (by show 3 ≤ 100000; decide)) fun p8 H8 n8 y8 h8 => ?_
    have x8 := x7.trans y8
    replace hE := hE0.ex x8
    dsimp only
    refine s_if (b := false) (et_test (ev_opL1 (xs := (bb i).map V.bl) (el_lst (ea_cons (by exact ev_blt T hE (v0 _ (by rfl) _) "ValueError" (by decide +kernel) (c0 i lt)) (ea_cons (by exact ev_blt T hE (v0 _ (by rfl) _) "LookupError" (by decide +kernel) (c1 i lt))
      (ea_cons (by exact ev_blt T hE (v0 _ (by rfl) _) "ArithmeticError" (by decide +kernel) (c2 i lt)) ea_nil))) (by show 3 ≤ 100000; decide)) (fun H' e' => ev_var (by rfl)) fun p H' hp e' => rv_neBools hp (e' _ _ h8))) (fun hb => Bool.noConfusion hb) fun _ H9 y9 => ?_
    have x9 := x8.trans y9
    have h7' := (y8.trans y9) _ _ h7
    have h8' := y9 _ _ h8
    dsimp only [tNext, tSeq]
    refine s_if (b := false) (et_test (ev_op (ev_count (bs := bsAt i) (ev_var (by rfl)) h7') ev_c (rv_val fun H1 e1 Q q => ⟨rfl, ?_⟩))) (fun hb => Bool.noConfusion hb) fun _ H10 y10 => ?_
    · rw [cnt i lt]
      exact q
    have x10 := x9.trans y10
    dsimp only [tNext, tSeq]
    refine s_asg (v := .int (i : Int)) (ev_index (bs := bsAt i) (ev_var (by rfl)) (y10 _ _ h7') (idx i lt)) fun H11 y11 => ?_
    dsimp only
    refine s_ret (v := .int (i : Int)) (ev_if (b := true) (et_test (ev_opL (xs := (bb i).map V.bl) (ev_var (by rfl)) (el_lst (ea_cons (ev_is (ev_op (ev_var (by rfl)) ev_c rv_I0) (d0 i lt)) (ea_cons (ev_is (ev_chain ev_c (ev_var (by rfl)) rv_I0 ev_c rv_I0) (d1 i lt))
      (ea_cons (ev_is (ev_op (ev_var (by rfl)) ev_c rv_I0) (d2 i lt)) ea_nil))) (by show 3 ≤ 100000; decide)) fun p H' hp e' => rv_eqBools ((y10.trans y11).trans e' _ _ h8') hp)) (fun _ => ev_var (by rfl)) fun hb => Bool.noConfusion hb) fun H12 y12 => ?_
    exact q _ (((x10.trans y11)).trans y12)
end
end L2.K01

set_option Elab.async false
set_option maxRecDepth 100000
set_option maxHeartbeats 4000000
set_option linter.all false
namespace L2.K01
open PySem PySem.Spec PyProof.Rows XK Evl XC
/-- the fields of an error of the i-th class that was made with x (and y) -/
def fieldsOf (i : Nat) (x y : V) : List (Str × V) :=
  if i < 9 ∨ i = 14 then [("given", x)] else if i = 16 then [] else if i = 17 then [("most", x)] else if i = 18 then [("shown", y), ("index", x)] else [("index", x)]
/-- what _law_field hands back -/
def FieldIs (i : Nat) (x y : V) (H : Hp) (v : V) : Prop := (i = 16 → v = .non) ∧ (i = 18 → ∃ p, v = .ref p ∧ H p = some (.tup [x, y])) ∧ (i ≠ 16 → i ≠ 18 → v = x)
def spField (a : Adr) : Sp := fun vs H Q _ => ∃ (e : Addr) (i : Nat) (C : Addr) (x y : V), vs = [.ref e, .int (i : Int)] ∧ ErrAt a H e i C (fieldsOf i x y) ∧
  ∀ H' v, Ex H H' → FieldIs i x y H' v → Q v H'
section
variable {P : Program} {w : World} {K : PySem.W.Frag} {mg : Str → Option Value} {base : Heap} {a : Adr}
theorem noField (T : Txt K mg a) {i : Nat} {C W : Addr} {B : String} (h : sorts a i = some (C, W, B)) : (∃ B newId initId bmB, EC K C B newId initId bmB) ∧
    ((i < 9 ∨ i = 14) → PySem.W.findIn K (.ref C) "given" = some none) ∧ (i = 17 → PySem.W.findIn K (.ref C) "most" = some none) ∧ (i = 18 → PySem.W.findIn K (.ref C) "shown" = some none) ∧
    (9 ≤ i → i ≠ 14 → i ≠ 16 → i ≠ 17 → PySem.W.findIn K (.ref C) "index" = some none) := by
  match i, h with
  | 0, h => cases h; exact ⟨⟨_, _, _, _, T.cInvalidNumber.toEC⟩, fun _ => T.cInvalidNumber.n0, fun z => absurd z (by decide), fun z => absurd z (by decide), fun z1 z2 z3 z4 => by omega⟩
  | 1, h => cases h; exact ⟨⟨_, _, _, _, T.cInvalidText.toEC⟩, fun _ => T.cInvalidText.n0, fun z => absurd z (by decide), fun z => absurd z (by decide), fun z1 z2 z3 z4 => by omega⟩
  | 2, h => cases h; exact ⟨⟨_, _, _, _, T.cInvalidName.toEC⟩, fun _ => T.cInvalidName.n0, fun z => absurd z (by decide), fun z => absurd z (by decide), fun z1 z2 z3 z4 => by omega⟩
  | 3, h => cases h; exact ⟨⟨_, _, _, _, T.cInvalidWish.toEC⟩, fun _ => T.cInvalidWish.n0, fun z => absurd z (by decide), fun z => absurd z (by decide), fun z1 z2 z3 z4 => by omega⟩
  | 4, h => cases h; exact ⟨⟨_, _, _, _, T.cInvalidIndex.toEC⟩, fun _ => T.cInvalidIndex.n0, fun z => absurd z (by decide), fun z => absurd z (by decide), fun z1 z2 z3 z4 => by omega⟩
  | 5, h => cases h; exact ⟨⟨_, _, _, _, T.cInvalidPicture.toEC⟩, fun _ => T.cInvalidPicture.n0, fun z => absurd z (by decide), fun z => absurd z (by decide), fun z1 z2 z3 z4 => by omega⟩
  | 6, h => cases h; exact ⟨⟨_, _, _, _, T.cInvalidEvent.toEC⟩, fun _ => T.cInvalidEvent.n0, fun z => absurd z (by decide), fun z => absurd z (by decide), fun z1 z2 z3 z4 => by omega⟩
  | 7, h => cases h; exact ⟨⟨_, _, _, _, T.cInvalidHearing.toEC⟩, fun _ => T.cInvalidHearing.n0, fun z => absurd z (by decide), fun z => absurd z (by decide), fun z1 z2 z3 z4 => by omega⟩
  | 8, h => cases h; exact ⟨⟨_, _, _, _, T.cNotAHouse.toEC⟩, fun _ => T.cNotAHouse.n0, fun z => absurd z (by decide), fun z => absurd z (by decide), fun z1 z2 z3 z4 => by omega⟩
  | 9, h => cases h; exact ⟨⟨_, _, _, _, T.cInvalidStands.toEC⟩, fun z => absurd z (by decide), fun z => absurd z (by decide), fun z => absurd z (by decide), fun _ _ _ _ => T.cInvalidStands.n0⟩
  | 10, h => cases h; exact ⟨⟨_, _, _, _, T.cInvalidKeys.toEC⟩, fun z => absurd z (by decide), fun z => absurd z (by decide), fun z => absurd z (by decide), fun _ _ _ _ => T.cInvalidKeys.n0⟩
  | 11, h => cases h; exact ⟨⟨_, _, _, _, T.cInvalidRows.toEC⟩, fun z => absurd z (by decide), fun z => absurd z (by decide), fun z => absurd z (by decide), fun _ _ _ _ => T.cInvalidRows.n0⟩
  | 12, h => cases h; exact ⟨⟨_, _, _, _, T.cWrongLine.toEC⟩, fun z => absurd z (by decide), fun z => absurd z (by decide), fun z => absurd z (by decide), fun _ _ _ _ => T.cWrongLine.n0⟩
  | 13, h => cases h; exact ⟨⟨_, _, _, _, T.cInvalidWeaving.toEC⟩, fun z => absurd z (by decide), fun z => absurd z (by decide), fun z => absurd z (by decide), fun _ _ _ _ => T.cInvalidWeaving.n0⟩
  | 14, h => cases h; exact ⟨⟨_, _, _, _, T.cUnknownName.toEC⟩, fun _ => T.cUnknownName.n0, fun z => absurd z (by decide), fun z => absurd z (by decide), fun z1 z2 z3 z4 => by omega⟩
  | 15, h => cases h; exact ⟨⟨_, _, _, _, T.cInUse.toEC⟩, fun z => absurd z (by decide), fun z => absurd z (by decide), fun z => absurd z (by decide), fun _ _ _ _ => T.cInUse.n0⟩
  | 16, h => cases h; exact ⟨⟨_, _, _, _, T.cNothingToUndo.toEC⟩, fun z => absurd z (by decide), fun z => absurd z (by decide), fun z => absurd z (by decide), fun z1 z2 z3 z4 => by omega⟩
  | 17, h => cases h; exact ⟨⟨_, _, _, _, T.cTooMany.toEC⟩, fun z => absurd z (by decide), fun _ => T.cTooMany.n0, fun z => absurd z (by decide), fun z1 z2 z3 z4 => by omega⟩
  | 18, h => cases h; exact ⟨⟨_, _, _, _, T.cBroken.toEC⟩, fun z => absurd z (by decide), fun z => absurd z (by decide), fun _ => T.cBroken.n1, fun _ _ _ _ => T.cBroken.n0⟩
  | n + 19, h => cases h
theorem inSome : ∀ i : Nat, i < 19 → inV (.int (i : Int)) [.int 9, .int 10, .int 11, .int 12, .int 13, .int 15] = true → ¬ (i < 9 ∨ i = 14) ∧ i ≠ 16 ∧ i ≠ 17 ∧ i ≠ 18 := by decide
theorem notSome : ∀ i : Nat, i < 19 → inV (.int (i : Int)) [.int 9, .int 10, .int 11, .int 12, .int 13, .int 15] = false → ¬ (i < 9 ∨ i = 14) → i = 16 ∨ i = 17 ∨ i = 18 := by decide
/-- e.f of an error at hand -/
theorem ev_field (T : Txt K mg a) {ta : TE} {σ : L2.St} {H : Hp} {e : Addr} {i : Nat} {C : Addr} {fs : List (Str × V)} {f : Str} {v : V} (hE : ErrAt a H e i C fs) (h16 : i ≠ 16) (ha : Ev ta σ H (.ref e)) (hl : fs.lookup f = some v)
    (nf : PySem.W.findIn K (.ref C) f = some none) : Ev (tXFld K f ta) σ H v := by
  obtain ⟨W, B, h⟩ := hE.is
  obtain ⟨d, h1, h2, h3⟩ := hE.at_
  cases d with
  | none => exact absurd rfl (h3 h16)
  | some d => exact ev_xfld ha h1 (h2 d rfl) hl (noField T h).1 nf
theorem ok_field (T : Txt K mg a) : FnOk P w K mg base CX0 1 a.LawField a.fdLawField ["_law_e", "_law_at"] (spField a) := by
  refine T.fLawField.ok scLawField (fun vs H Q E h => ?_) (fun cdv A outer s H vs Q E hr h => ?_)
  · obtain ⟨e, i, C, x, y, rfl, _⟩ := h
    rfl
  · obtain ⟨e, i, C, x, y, rfl, hE, q⟩ := h
    refine ⟨_, (pss_cons (ps_if (pt_cmpR op_in_seq (pv 1) (pe_lst (pa_cons pe_int (pa_cons pe_int (pa_cons pe_int (pa_cons pe_int (pa_cons pe_int (pa_cons pe_int pa_nil))))))) (by rfl)) (pss_one (ps_ret (by exact (XK.pe_xfld (pv 0))))) pss_nil)
      (pss_cons (ps_if (PW.pt (pw_or (pt_cmpR op_lt (pv 1) pe_int (nomark _)) (pw_or1 (pt_cmpR op_eq (pv 1) pe_int (nomark _))))) (pss_one (ps_ret (by exact (XK.pe_xfld (pv 0))))) pss_nil)
      (pss_cons (ps_if (pt_cmpR op_eq (pv 1) pe_int (nomark _)) (pss_one (ps_ret (by exact pe_non))) pss_nil)
      (pss_one (ps_ret (by exact (pe_ifExp (pt_cmpR op_eq (pv 1) pe_int (nomark _)) (XK.pe_xfld (pv 0)) (pe_tup (pa_cons (XK.pe_xfld (pv 0)) (pa_cons (XK.pe_xfld (pv 0)) pa_nil)))))))))), ?_⟩
    have lt := hE.lt
    have hE0 := hE
    obtain ⟨W, B, hs⟩ := hE.is
    obtain ⟨_, nG, nM, nS, nI⟩ := noField T hs
    refine s_if (b := inV (.int (i : Int)) [.int 9, .int 10, .int 11, .int 12, .int 13, .int 15]) (et_test (ev_opL (ev_var (by rfl)) (el_lst (ea_cons ev_c (ea_cons ev_c (ea_cons ev_c (ea_cons ev_c (ea_cons ev_c (ea_cons ev_c ea_nil)))))) (by show 6 ≤ 100000; decide)) fun p H1 hp e1 => rv_isL (sq_of hp) rfl rfl)) (fun hb H1 e1 => ?_) fun hb H1 e1 => ?_
    · obtain ⟨c1, c2, c3, c4⟩ := inSome i lt hb
      have ef : fieldsOf i x y = ([("index", x)] : List (Str × V)) := by
        unfold fieldsOf
        rw [if_neg c1, if_neg c2, if_neg c3, if_neg c4]
      refine s_ret (v := x) ?_ fun H2 e2 => q _ _ (e1.trans e2) ⟨fun z => absurd z c2, fun z => absurd z c4, fun _ _ => rfl⟩
      refine ev_field T (hE0.ex e1) c2 (ev_var (by rfl)) ?_ (nI (by omega) (by omega) c2 c3)
      rw [ef]
      rfl
    · dsimp only [tNext, tSeq]
      refine s_if (b := decide ((i : Int) < 9) || decide (V.int (i : Int) = V.int 14)) (et_or (et_test (ev_op (ev_var (by rfl)) ev_c rv_I0)) fun _ => et_test (ev_op (ev_var (by rfl)) ev_c (rv_eq rfl))) (fun hc H2 e2 => ?_) fun hc H2 e2 => ?_
      · have c1 : i < 9 ∨ i = 14 := by
          simp at hc
          omega
        have ef : fieldsOf i x y = ([("given", x)] : List (Str × V)) := by
          unfold fieldsOf
          rw [if_pos c1]
        refine s_ret (v := x) ?_ fun H3 e3 => q _ _ ((e1.trans e2).trans e3) ⟨fun z => by omega, fun z => by omega, fun _ _ => rfl⟩
        refine ev_field T (hE0.ex (e1.trans e2)) (by omega) (ev_var (by rfl)) ?_ (nG c1)
        rw [ef]
        rfl
      · have c1 : ¬ (i < 9 ∨ i = 14) := by
          simp at hc
          omega
        dsimp only [tNext, tSeq]
        refine s_if (b := decide (V.int (i : Int) = V.int 16)) (et_test (ev_op (ev_var (by rfl)) ev_c (rv_eq rfl))) (fun hd H3 e3 => ?_) fun hd H3 e3 => ?_
        · have c2 : i = 16 := by
            simp at hd
            omega
          exact s_ret (v := .non) ev_c fun H4 e4 => q _ _ (((e1.trans e2).trans e3).trans e4) ⟨fun _ => rfl, fun z => by omega, fun z => absurd c2 z⟩
        · have c2 : i ≠ 16 := by
            simp at hd
            omega
          have x3 := (e1.trans e2).trans e3
          dsimp only [tNext, tSeq]
          by_cases c3 : i = 17
          · have ef : fieldsOf i x y = ([("most", x)] : List (Str × V)) := by
              unfold fieldsOf
              rw [if_neg c1, if_neg c2, if_pos c3]
            refine s_ret (v := x) (ev_if (b := true) (et_is (et_test (ev_op (ev_var (by rfl)) ev_c (rv_eq rfl))) (by simp; omega)) (fun _ => ?_) fun z => Bool.noConfusion z) fun H4 e4 => q _ _ (x3.trans e4) ⟨fun z => absurd z c2, fun z => by omega, fun _ _ => rfl⟩
            refine ev_field T (hE0.ex x3) c2 (ev_var (by rfl)) ?_ (nM c3)
            rw [ef]
            rfl
          · have c4 : i = 18 := by
              have := notSome i lt hb c1
              omega
            have ef : fieldsOf i x y = ([("shown", y), ("index", x)] : List (Str × V)) := by
              unfold fieldsOf
              rw [if_neg c1, if_neg c2, if_neg c3, if_pos c4]
            have eu : EvU (tTup (tCons (tXFld K "index" (tVar 0)) (tCons (tXFld K "shown" (tVar 0)) tNil))) (start NLawField [.ref e, .int (i : Int)]) H3 [x, y] := by
              refine eu_tup (ea_cons ?_ (ea_cons ?_ ea_nil)) (by show 2 ≤ 100000; decide)
              · refine ev_field T (hE0.ex x3) c2 (ev_var (by rfl)) ?_ (nI (by omega) (by omega) c2 c3)
                rw [ef]
                rfl
              · refine ev_field T (hE0.ex x3) c2 (ev_var (by rfl)) ?_ (nS c4)
                rw [ef]
                rfl
            refine s_retU (xs := [x, y]) (fun H4 e4 R hR => ?_) fun p H4 hp e4 h4 => q _ _ (x3.trans e4) ⟨fun z => absurd z c2, fun _ => ⟨p, rfl, h4⟩, fun _ z => absurd c4 z⟩
            refine et_is (a := decide (V.int (i : Int) = V.int 17)) (b := false) (et_test (ev_op (ev_var (by rfl)) ev_c (rv_eq rfl))) (by simp; omega) H4 e4 _ fun H5 e5 => ?_
            exact eu H5 (e4.trans e5) R fun p H6 hp e6 h6 => hR p H6 (fresh_back e5 hp) (e5.trans e6) h6
end
end L2.K01

set_option Elab.async false
set_option maxRecDepth 100000
set_option maxHeartbeats 4000000
set_option linter.all false
namespace L2.K01
open PySem PySem.Spec PyProof.Rows XK Evl XC
def odd1 : List PyData := [.none, (.bool true), (.bool false), (.int 0), (.int 1), (.int (-1)), (.int (10 ^ (39 : Int).toNat)), (.int (-(10 ^ (38 : Int).toNat))), (.str ""), (.str "free"), (.str "a and b"), (.tuple []), (.list []), (.dict [])]
def odd2 : List PyData := [(.tuple [(.int 1), .none]), (.list [(.list []), (.tuple [])]), (.dict [((.str "a"), (.int 1))]), (.tuple [(.str "call"), (.int 0), (.tuple [(.int 1)])]), (.tuple [(.bool true), (.int 1), (.str "1")]), (.str "lines 1\nstand free quiet")]
def odd3 : List PyData := [(.tuple [(.str "in"), (.tuple [.none, (.tuple [(.str "x"), (.list [(.int 2)])])])])]
/-- the odd values -/
def oddData : List PyData := (odd1 ++ odd2) ++ odd3
theorem odd_small : ∀ d ∈ oddData, d.showable = true ∧ d.shown.length ≤ 100 ∧ d.depth ≤ 10 := by decide +kernel
def spOdd : Sp := fun vs H Q _ => ∃ (p : Addr) (n : Int), vs = [.ref p] ∧ PoolAt H p n ∧ n ≤ 1000000 ∧
  ∀ H' v d, PoolAt H' p (n + 1) → But p H H' → Dx (delH H' p) v d → d ∈ oddData → Q v H'
theorem dxMem {H : Hp} {v : V} : ∀ {vs : List V} {ds : List PyData}, DxAll H vs ds → v ∈ vs → ∃ d, d ∈ ds ∧ Dx H v d
  | _, _, .nil, h => by cases h
  | _, _, .cons (d := d) a t, h => by
    rcases List.mem_cons.mp h with rfl | h
    · exact ⟨d, List.mem_cons_self, a⟩
    · obtain ⟨d', h1, h2⟩ := dxMem t h
      exact ⟨d', List.mem_cons_of_mem _ h1, h2⟩
section
variable {P : Program} {w : World} {K : PySem.W.Frag} {mg : Str → Option Value} {base : Heap} {a : Adr}
theorem ok_odd (T : Txt K mg a) : FnOk P w K mg base CX0 3 a.LawOdd a.fdLawOdd ["_law_pool_here"] spOdd := by
  have GLawPick : FnOk P w K mg base CX0 2 a.LawPick a.fdLawPick ["_law_pool_here", "_law_things"] spPick := ok_pick T
  refine T.fLawOdd.ok scLawOdd (fun vs H Q E h => ?_) (fun cdv A outer s H vs Q E hr h => ?_)
  · obtain ⟨p, n, rfl, _⟩ := h
    rfl
  · obtain ⟨p, n, rfl, hP, hn, q⟩ := h
    refine ⟨_, (pss_cons (ps_set (i := 1) scLawOdd.nd rfl (by first | exact Or.inl rfl | exact Or.inr rfl) (by exact (pe_lst (pa_cons pe_non (pa_cons pe_bl (pa_cons pe_bl (pa_cons pe_int (pa_cons pe_int (pa_cons (pe_un un_neg pe_int) (pa_cons (pe_op op_pow pe_int pe_int) (pa_cons (pe_un un_neg (pe_op op_pow pe_int pe_int)) (pa_cons pe_str (pa_cons pe_str (pa_cons pe_str (pa_cons (pe_tup pa_nil) (pa_cons (pe_lst pa_nil) (pa_cons pe_dnewK pa_nil)))))))))))))))))
      (pss_cons (ps_set (i := 1) scLawOdd.nd rfl (by first | exact Or.inl rfl | exact Or.inr rfl) (by exact (pe_op op_cat (pv 1) (pe_lst (pa_cons (pe_tup (pa_cons pe_int (pa_cons pe_non pa_nil))) (pa_cons (pe_lst (pa_cons (pe_lst pa_nil) (pa_cons (pe_tup pa_nil) pa_nil))) (pa_cons (pe_disp (pps_cons pe_str pe_int pps_nil) (by rfl) (by rfl) (fun z => by cases z) (by decide)) (pa_cons (pe_tup (pa_cons pe_str (pa_cons pe_int (pa_cons (pe_tup (pa_cons pe_int pa_nil)) pa_nil)))) (pa_cons (pe_tup (pa_cons pe_bl (pa_cons pe_int (pa_cons pe_str pa_nil)))) (pa_cons pe_str pa_nil))))))))))
      (pss_one (ps_ret (by exact (pe_call GLawPick (hr.mono (by decide)) (by rfl) T.gLawPick T.kLawPick T.bLawPick .nil pass0 (pa_cons (pv 0) (pa_cons (pe_op op_cat (pv 1) (pe_lst (pa_cons (pe_tup (pa_cons pe_str (pa_cons (pe_tup (pa_cons pe_non (pa_cons (pe_tup (pa_cons pe_str (pa_cons (pe_lst (pa_cons pe_int pa_nil)) pa_nil))) pa_nil))) pa_nil))) pa_nil))) pa_nil)))))))), ?_⟩
    obtain ⟨x, y, z, hp, hP'⟩ := id hP
    refine s_asgDL (p := p) (ds := odd1) ?_ fun l1 xs1 H1 n1 e1 h1 d1 => ?_
    · exact edl_lst hp (eda_cons (ed_ev ev_c fun _ => .non) (eda_cons (ed_ev ev_c fun _ => .bl _) (eda_cons (ed_ev ev_c fun _ => .bl _) (eda_cons (ed_ev ev_c fun _ => .int _) (eda_cons (ed_ev ev_c fun _ => .int _) (eda_cons (ed_ev (ev_un ev_c ru_neg) fun _ => .int _) (eda_cons (ed_ev (ev_op ev_c ev_c (rv_I ⟨by decide, by decide, by decide⟩)) fun _ => .int _) (eda_cons (ed_ev (ev_un (ev_op ev_c ev_c (rv_I ⟨by decide, by decide, by decide⟩)) ru_neg) fun _ => .int _) (eda_cons (ed_ev ev_c fun _ => .str _) (eda_cons (ed_ev ev_c fun _ => .str _) (eda_cons (ed_ev ev_c fun _ => .str _) (eda_cons (ed_tup hp eda_nil (by decide)) (eda_cons (ed_lst hp eda_nil (by decide)) (eda_cons (ed_dict0 hp) eda_nil)))))))))))))) (by decide)
    have hp1 := e1 _ _ hp
    dsimp only
    refine s_asgDL (p := p) (ds := odd1 ++ odd2) ?_ fun l2 xs2 H2 n2 e2 h2 d2 => ?_
    · exact edl_cat hp1 (ev_var (by rfl)) h1 d1 (edl_lst hp1 (eda_cons (ed_tup (hp1) (eda_cons (ed_ev ev_c fun _ => .int _) (eda_cons (ed_ev ev_c fun _ => .non) eda_nil)) (by decide)) (eda_cons (ed_lst (hp1) (eda_cons (ed_lst (hp1) eda_nil (by decide)) (eda_cons (ed_tup (hp1) eda_nil (by decide)) eda_nil)) (by decide)) (eda_cons (ed_dict1 (hp1)) (eda_cons (ed_tup (hp1) (eda_cons (ed_ev ev_c fun _ => .str _) (eda_cons (ed_ev ev_c fun _ => .int _) (eda_cons (ed_tup (hp1) (eda_cons (ed_ev ev_c fun _ => .int _) eda_nil) (by decide)) eda_nil))) (by decide)) (eda_cons (ed_tup (hp1) (eda_cons (ed_ev ev_c fun _ => .bl _) (eda_cons (ed_ev ev_c fun _ => .int _) (eda_cons (ed_ev ev_c fun _ => .str _) eda_nil))) (by decide)) (eda_cons (ed_ev ev_c fun _ => .str _) eda_nil)))))) (by decide)) (by decide)
    have hp2 := e2 _ _ hp1
    dsimp only
    refine ⟨_, rfl, ?_⟩
    refine edl_cat (p := p) (ds := odd1 ++ odd2) (es := odd3) hp2 (ev_var (by rfl)) h2 d2 ?_ (by decide) H2 (Ex.refl _) _ fun l3 xs3 H3 n3 e3 h3 d3 => ?_
    · exact edl_lst hp2 (eda_cons (ed_tup (hp2) (eda_cons (ed_ev ev_c fun _ => .str _) (eda_cons (ed_tup (hp2) (eda_cons (ed_ev ev_c fun _ => .non) (eda_cons (ed_tup (hp2) (eda_cons (ed_ev ev_c fun _ => .str _) (eda_cons (ed_lst (hp2) (eda_cons (ed_ev ev_c fun _ => .int _) eda_nil) (by decide)) eda_nil)) (by decide)) eda_nil)) (by decide)) eda_nil)) (by decide)) eda_nil) (by decide)
    have hp3 := e3 _ _ hp2
    have hl : xs3.length = 21 := by rw [dxLen d3]; rfl
    refine ⟨p, l3, n, xs3, rfl, hP.ex ((e1.trans e2).trans e3), hn, fun z => ?_, h3, by omega, by omega, fun H4 v hP4 b4 hv => ?_⟩
    · rw [z, hp3] at h3
      have h3' := Option.some.inj h3
      injection h3' with h3''
      rw [← h3''] at hl
      simp at hl
    · obtain ⟨d, hd1, hd2⟩ := dxMem d3 hv
      exact q H4 v d hP4 ((But.of ((e1.trans e2).trans e3)).trans b4) (hd2.same (butDel b4)) hd1
end
end L2.K01

set_option Elab.async false
set_option maxRecDepth 100000
set_option maxHeartbeats 4000000
set_option linter.all false
namespace L2.K01
open PySem PySem.Spec PyProof.Rows XK Evl XC
/-- the errors of the classes is, made with x (and y) -/
inductive Errs (a : Adr) (H : Hp) (x y : V) : List V → List Nat → Prop
  | nil : Errs a H x y [] []
  | cons {e : Addr} {i : Nat} {C : Addr} {vs : List V} {is : List Nat} : ErrAt a H e i C (fieldsOf i x y) → Errs a H x y vs is → Errs a H x y (.ref e :: vs) (i :: is)
theorem Errs.ex {a : Adr} {H H' : Hp} {x y : V} (z : Ex H H') : ∀ {vs : List V} {is : List Nat}, Errs a H x y vs is → Errs a H' x y vs is
  | _, _, .nil => .nil
  | _, _, .cons h t => .cons (h.ex z) (Errs.ex z t)
theorem Errs.append {a : Adr} {H : Hp} {x y : V} : ∀ {vs ws : List V} {is js : List Nat}, Errs a H x y vs is → Errs a H x y ws js → Errs a H x y (vs ++ ws) (is ++ js)
  | _, _, _, _, .nil, q => q
  | _, _, _, _, .cons h t, q => .cons h (Errs.append t q)
theorem Errs.len {a : Adr} {H : Hp} {x y : V} : ∀ {vs : List V} {is : List Nat}, Errs a H x y vs is → vs.length = is.length
  | _, _, .nil => rfl
  | _, _, .cons _ t => congrArg Nat.succ (Errs.len t)
theorem Errs.get {a : Adr} {H : Hp} {x y : V} : ∀ {vs : List V} {is : List Nat} {j : Nat} {v : V}, Errs a H x y vs is → vs[j]? = some v → ∃ e i C, v = .ref e ∧ is[j]? = some i ∧ ErrAt a H e i C (fieldsOf i x y)
  | _, _, j, _, .nil, h => by simp at h
  | _, _, 0, _, .cons h t, e => by
    simp at e
    exact ⟨_, _, _, e.symm, rfl, h⟩
  | _, _, j + 1, _, .cons h t, e => by
    obtain ⟨e', i, C, h1, h2, h3⟩ := Errs.get (j := j) t (by simpa using e)
    exact ⟨e', i, C, h1, by simpa using h2, h3⟩
def EvE (a : Adr) (x y : V) (te : TE) (σ : L2.St) (H : Hp) (i : Nat) : Prop := ∀ H1, Ex H H1 → ∀ Q : VK, (∀ e C H2, Ex H1 H2 → ErrAt a H2 e i C (fieldsOf i x y) → Q (.ref e) H2) → te σ H1 Q
def EvEA (a : Adr) (x y : V) (ta : TA) (σ : L2.St) (H : Hp) (is : List Nat) : Prop := ∀ H1, Ex H H1 → ∀ Q : List V → Hp → Prop, (∀ vs H2, Ex H1 H2 → Errs a H2 x y vs is → Q vs H2) → ta σ H1 Q
def EvEL (a : Adr) (x y : V) (te : TE) (σ : L2.St) (H : Hp) (is : List Nat) : Prop := ∀ H1, Ex H H1 → ∀ Q : VK,
  (∀ l xs H2, H1 l = none → Ex H1 H2 → H2 l = some (.lst xs) → Errs a H2 x y xs is → Q (.ref l) H2) → te σ H1 Q
section
variable {a : Adr} {x y : V} {σ : L2.St} {H : Hp} {te tb : TE} {ta : TA} {D : Ends}
theorem ee_new {i : Nat} {C W : Addr} {B : String} {fsOf : List V → Option (List (Str × V))} {vs : List V} (hs : sorts a i = some (C, W, B)) (h : EvA ta σ H vs) (hf : fsOf vs = some (fieldsOf i x y)) :
    EvE a x y (tNew C fsOf ta) σ H i := fun H1 e Q q =>
  ev_new h hf H1 e Q fun b d H2 hb hd e2 h1 h2 => q b C H2 e2 ⟨(sorts_at a hs).2.2.2, ⟨W, B, hs⟩, some d, h1, fun z hz => by cases hz; exact h2, fun _ hz => by cases hz⟩
theorem ee_new0 {C W : Addr} {B : String} (hs : sorts a 16 = some (C, W, B)) : EvE a x y (fun σ H Q => ∀ b, H b = none → Q (.ref b) (upd H b (exo b C none))) σ H 16 := fun H1 e Q q b hb =>
  q b C _ (Ex.new hb) ⟨by decide, ⟨W, B, hs⟩, none, upd_same, (fun z hz => by cases hz), fun hz => absurd rfl hz⟩
theorem eea_nil : EvEA a x y tNil σ H [] := fun H1 e Q q => q [] H1 (Ex.refl _) .nil
theorem eea_cons {i : Nat} {is : List Nat} (h : EvE a x y te σ H i) (t : EvEA a x y ta σ H is) : EvEA a x y (tCons te ta) σ H (i :: is) := fun H1 e Q q =>
  h H1 e _ fun b C H2 e2 hb => t H2 (e.trans e2) _ fun vs H3 e3 ht => q (.ref b :: vs) H3 (e2.trans e3) (.cons (hb.ex e3) ht)
theorem eel_lst {is : List Nat} (h : EvEA a x y ta σ H is) (hl : is.length ≤ 100000) : EvEL a x y (tLst ta) σ H is := fun H1 e Q q =>
  h H1 e _ fun vs H2 e2 hv => ⟨sz_of (by rw [hv.len]; exact hl), fun l hn => q l vs _ (fresh_back e2 hn) (e2.trans (Ex.new hn)) upd_same (hv.ex (Ex.new hn))⟩
theorem eel_cat {l : Addr} {xs : List V} {is js : List Nat} (ha : Ev te σ H (.ref l)) (hl : H l = some (.lst xs)) (hd : Errs a H x y xs is) (hb : EvEL a x y tb σ H js)
    (hz : is.length + js.length ≤ 100000) : EvEL a x y (tOp rCat te tb) σ H (is ++ js) := fun H1 e Q q =>
  ha H1 e _ fun H2 e2 => hb H2 (e.trans e2) _ fun r ys H3 hr e3 h3 hy =>
    ⟨l, r, xs, ys, rfl, rfl, ((e.trans e2).trans e3) l _ hl, h3, sz_of (by rw [hd.len, hy.len]; exact hz), fun n hn =>
      q n _ _ (fresh_back (e2.trans e3) hn) ((e2.trans e3).trans (Ex.new hn)) upd_same (((hd.ex ((e.trans e2).trans e3)).append hy).ex (Ex.new hn))⟩
theorem s_asgE {i n : Nat} (h : EvE a x y te σ H n) (k : ∀ e C H1, Ex H H1 → ErrAt a H1 e n C (fieldsOf n x y) → D.nx (σ.set i (some (.ref e))) H1) : tAsg te (gName i) D σ H := h H (Ex.refl H) _ k
theorem s_asgEL {i : Nat} {is : List Nat} (h : EvEL a x y te σ H is) (k : ∀ l xs H1, H l = none → Ex H H1 → H1 l = some (.lst xs) → Errs a H1 x y xs is → D.nx (σ.set i (some (.ref l))) H1) :
    tAsg te (gName i) D σ H := h H (Ex.refl H) _ k
/-- xs.append(e), e an error -/
theorem s_appE {K : PySem.W.Frag} {l : Addr} {xs : List V} {n : Nat} (hl : H l = some (.lst xs)) (ha : Ev te σ H (.ref l)) (h : EvE a x y tb σ H n) (hz : xs.length < 100000)
    (k : ∀ e C H1, Ex H H1 → ErrAt a H1 e n C (fieldsOf n x y) → D.nx σ (upd H1 l (.lst (xs ++ [.ref e])))) : tDrop (tBM K "list" rAppend te (tCons tb tNil)) D σ H := ha H (Ex.refl H) _ fun H1 e1 =>
  ⟨Or.inl ⟨rfl, xs, sq_of (e1 l _ hl)⟩, h H1 e1 _ fun e C H2 e2 he => ⟨l, xs, .ref e, rfl, rfl, e2 l _ (e1 l _ hl), sz_lt hz, k e C H2 (e1.trans e2) he⟩⟩
/-- X(..).f -/
theorem ev_newFld {K : PySem.W.Frag} {mg : Str → Option Value} (T : Txt K mg a) {i : Nat} {f : Str} {v : V} (h : EvE a x y te σ H i) (h16 : i ≠ 16) (hl : (fieldsOf i x y).lookup f = some v)
    (nf : ∀ C W B, sorts a i = some (C, W, B) → PySem.W.findIn K (.ref C) f = some none) : Ev (tXFld K f te) σ H v := fun H1 e1 Q q =>
  h H1 e1 _ fun e C H2 e2 hE => by
    obtain ⟨W, B, hs⟩ := hE.is
    obtain ⟨d, h1, h2, h3⟩ := hE.at_
    cases d with
    | none => exact absurd rfl (h3 h16)
    | some d => exact ⟨e, C, d, _, v, rfl, h1, h2 d rfl, hl, (noField T hs).1, nf _ _ _ hs, q H2 e2⟩
/-- an int list and a list(range(..)) that say the same -/
theorem dpInts {K : PySem.W.Frag} {H : Hp} : ∀ {ns : List Int}, DpAll K H (ns.map V.int) (ns.map PyData.int)
  | [] => .nil
  | n :: ns => .cons (.int n) dpInts
theorem canInts : ∀ ns : List Int, PyData.canLayAll0 (ns.map PyData.int) = true
  | [] => rfl
  | b :: bs => by
    have ih := canInts bs
    simp only [List.map_cons, PyData.canLayAll0, ih, Bool.and_true]
    rfl
theorem depthInts : ∀ ns : List Int, PyData.depthAll (ns.map PyData.int) = 0
  | [] => rfl
  | b :: bs => by
    have ih := depthInts bs
    simp only [List.map_cons, PyData.depthAll, ih, PyData.depth, Nat.max_self]
theorem shapedInts (ns : List Int) : SeqAt.shaped (.list (ns.map PyData.int)) = true := by
  have h1 := canInts ns
  have h2 := depthInts ns
  unfold SeqAt.shaped
  simp only [PyData.canLay0, PyData.depth, h1, h2]
  decide
theorem rv_neInts {K : PySem.W.Frag} {H : Hp} {p q : Addr} {ns : List Int} (hp : H p = some (.lst (ns.map V.int))) (hq : H q = some (.lst (ns.map V.int))) : RV (rNeD K) (.ref p) (.ref q) H (.bl false) := fun H1 e Q k => by
  refine ⟨.list (ns.map PyData.int), .list (ns.map PyData.int), .lst (sq_of (e _ _ hp)) dpInts, .lst (sq_of (e _ _ hq)) dpInts, shapedInts ns, shapedInts ns, ?_⟩
  rw [SeqAt.eqv_refl _ (SeqAt.canLay_of_shaped (shapedInts ns))]
  exact k H1 (Ex.refl _)
theorem el_listRg {n : Nat} (hn : n ≤ 1000) : EvL (tLstRg (tRg1 (tC (.int (n : Int))))) σ H (rgV 0 n) := fun H1 e Q q =>
  ⟨n, rfl, RgOk.of_le (by omega) (by omega) (by omega) (by omega), fun l hl => q l _ hl (Ex.new hl) upd_same⟩
/-- repr -/
def rRepr : List V → Hp → VK → Prop := fun xs H Q => ∃ a d, xs = [V.ref a] ∧ Dx H (.ref a) d ∧ d.showable = true ∧ d.shown.length ≤ sizeLine ∧ d.depth ≤ 100 ∧ Q (.str d.shown) H
structure Fits (d : PyData) : Prop where
  sh : d.showable = true
  le : d.shown.length ≤ sizeLine
  dp : d.depth ≤ 100
theorem ev_repr {l : Addr} {d : PyData} (ha : Ev te σ H (.ref l)) (hd : Dx H (.ref l) d) (f : Fits d) : Ev (tCB rRepr (tCons te tNil)) σ H (.str d.shown) := fun H1 e Q q =>
  ha H1 e _ fun H2 e2 => ⟨l, d, rfl, hd.same (e.trans e2), f.sh, f.le, f.dp, q H2 e2⟩
theorem ev_reprL {xs : List V} {ds : List PyData} (ha : EvL te σ H xs) (hd : DxAll H xs ds) (f : Fits (.list ds)) : Ev (tCB rRepr (tCons te tNil)) σ H (.str (PyData.list ds).shown) := fun H1 e Q q =>
  ha H1 e _ fun l H2 hl e2 h2 => ⟨l, .list ds, rfl, .lst h2 (hd.same (e.trans e2)), f.sh, f.le, f.dp, q H2 e2⟩
/-- a comprehension over range(n) whose elements are data -/
def EvDS (te : TE) (σ : L2.St) (H : Hp) (ds : List PyData) : Prop := ∀ H1, Ex H H1 → ∀ Q : VK,
  (∀ l xs H2, H1 l = none → Ex H1 H2 → H2 l = some (.lst xs) → DxAll H2 xs ds → Q (.ref l) H2) → te σ H1 Q
theorem ev_reprS {ds : List PyData} (ha : EvDS te σ H ds) (f : Fits (.list ds)) : Ev (tCB rRepr (tCons te tNil)) σ H (.str (PyData.list ds).shown) := fun H1 e Q q =>
  ha H1 e _ fun l xs H2 hl e2 h2 hd => ⟨l, .list ds, rfl, .lst h2 hd, f.sh, f.le, f.dp, q H2 e2⟩
theorem eds_lcR1 {j : Nat} {vs : List Nat} {n : Nat} (d : Nat → PyData) (h : EvA ta σ H [.int (n : Int)]) (hn : n ≤ 40000) (hw : ∀ x, wipe ((wipe σ vs).set j (some x)) vs = wipe σ vs)
    (he : ∀ (i : Nat) (D : Addr) H1 (o : List V), H D = none → Ex H (delH H1 D) → H1 D = some (.lst o) → i < n → EvD D te ((wipe σ vs).set j (some (.int (i : Int)))) H1 (d i)) :
    EvDS (tLc (iRng1 ta) (gName j) tYes te vs) σ H ((List.range n).map d) := fun H0 e Q q => h H0 e _ fun H1 e1 => ⟨n, rfl, by omega, by omega, fun D hD => by
  have hD0 : H D = none := fresh_back (e.trans e1) hD
  refine lc_range (lo := 0) (n := n) (fun i H' => Ex H1 H' ∧ ∃ acc, H' D = some (.lst acc) ∧ DxAll (delH H' D) acc ((List.range i).map d)) ⟨Ex.new hD, [], upd_same, .nil⟩ (fun i H' hi p => ?_) fun H' p => ?_
  · obtain ⟨p1, acc, p2, p3⟩ := p
    have e0 : (0 : Int) + (i : Int) = (i : Int) := Int.zero_add _
    show wipe ((wipe σ vs).set j (some (.int ((0 : Int) + (i : Int))))) vs = wipe σ vs ∧ te ((wipe σ vs).set j (some (.int ((0 : Int) + (i : Int))))) H' fun y H4 => ∃ acc, H4 D = some (.lst acc) ∧ acc.length < sizeLine ∧ (Ex H1 (upd H4 D (.lst (acc ++ [y]))) ∧
      ∃ acc', (upd H4 D (.lst (acc ++ [y]))) D = some (.lst acc') ∧ DxAll (delH (upd H4 D (.lst (acc ++ [y]))) D) acc' ((List.range (i + 1)).map d))
    rw [e0]
    refine ⟨hw _, ?_⟩
    have keep : Ex H (delH H' D) := fun b o hb => by
      rw [delH_ne (ne_of_none hb hD0)]
      exact p1 b o ((e.trans e1) b o hb)
    refine he i D H' _ hD0 keep p2 (by omega) H' (Ex.refl _) _ fun v H4 e4 hv => ?_
    have hlen : acc.length = i := by rw [dxLen p3, List.length_map, List.length_range]
    have same : Ex (delH H4 D) (delH (upd H4 D (.lst (acc ++ [v]))) D) := fun b o hb => by
      by_cases z : b = D
      · rw [z, delH_same] at hb
        cases hb
      · rw [delH_ne z] at hb ⊢
        rw [upd_ne z]
        exact hb
    refine ⟨acc, e4 _ _ p2, sz_lt (by omega), Ex.mut (p1.trans e4) hD, _, upd_same, ?_⟩
    rw [List.range_succ, List.map_append]
    exact ((p3.same (exDel e4)).append (.cons hv .nil)).same same
  · obtain ⟨p1, acc, p2, p3⟩ := p
    exact q D acc H' (fresh_back e1 hD) (e1.trans p1) p2 (p3.same delEx)⟩
end
def dueData (d e : PyData) : List PyData := List.replicate 16 d ++ [.none, d, .tuple [d, e]]
theorem exo_lst {e C : Addr} {d : Option Addr} {xs : List V} : exo e C d ≠ .lst xs := fun z => by
  have z' : HO.ext _ = HO.lst xs := z
  cases z'
theorem ErrAt.del {a : Adr} {H : Hp} {e : Addr} {i : Nat} {C : Addr} {fs : List (Str × V)} {l : Addr} {xs : List V} (h : ErrAt a H e i C fs) (hl : H l = some (.lst xs)) : ErrAt a (delH H l) e i C fs := by
  obtain ⟨d, h1, h2, h3⟩ := h.at_
  refine ⟨h.lt, h.is, d, ?_, fun z hz => ?_, h3⟩
  · rw [delH_ne (ne_of h1 hl exo_lst)]
    exact h1
  · have h4 := h2 z hz
    rw [delH_ne (ne_of h4 hl (by intro w; cases w))]
    exact h4
theorem Errs.del {a : Adr} {H : Hp} {x y : V} {l : Addr} {xs : List V} (hl : H l = some (.lst xs)) : ∀ {vs : List V} {is : List Nat}, Errs a H x y vs is → Errs a (delH H l) x y vs is
  | _, _, .nil => .nil
  | _, _, .cons h t => .cons (h.del hl) (Errs.del hl t)
theorem delUpd {H : Hp} {l : Addr} {o : HO} : Ex (delH H l) (upd H l o) := fun b u h => by
  by_cases z : b = l
  · rw [z, delH_same] at h
    cases h
  · rw [delH_ne z] at h
    rw [upd_ne z]
    exact h
theorem ed_var {p : Addr} {σ : L2.St} {H : Hp} {te : TE} {v : V} {d : PyData} (h : Ev te σ H v) (hd : Dx (delH H p) v d) : EvD p te σ H d := fun H1 e Q q =>
  h H1 e Q fun H2 e2 => q v H2 e2 (hd.same (exDel (e.trans e2)))
theorem edl_catN {p : Addr} {σ : L2.St} {H : Hp} {te tb : TE} {xs : List V} {ds es : List PyData} {o : HO} (hp : H p = some o) (ha : EvL te σ H xs) (hd : DxAll (delH H p) xs ds)
    (hb : ∀ H', Ex H H' → EvDL p tb σ H' es) (hz : ds.length + es.length ≤ 100000) : EvDL p (tOp rCat te tb) σ H (ds ++ es) := fun H1 e Q q =>
  ha H1 e _ fun l H2 _ e2 hl => hb H2 (e.trans e2) H2 (Ex.refl _) _ fun r ys H3 hr e3 h3 hy =>
    ⟨l, r, xs, ys, rfl, rfl, e3 l _ hl, h3, sz_of (by rw [dxLen hd, dxLen hy]; exact hz), fun n hn =>
      q n _ _ (fresh_back (e2.trans e3) hn) ((e2.trans e3).trans (Ex.new hn)) upd_same
        (((hd.same (exDel ((e.trans e2).trans e3))).append hy).same (newDel hp ((e.trans e2).trans e3) hn).2)⟩
theorem ev_any {K : PySem.W.Frag} {σ : L2.St} {H : Hp} {ta : TE} {l : Addr} {bs : List Bool} (ha : Ev ta σ H (.ref l)) (hl : H l = some (.lst (bs.map V.bl))) :
    Ev (tCB (rAny K) (tCons ta tNil)) σ H (.bl (bs.any id)) := fun H1 e Q q => ha H1 e _ fun H2 e2 => ⟨l, bs, rfl, sq_of ((e.trans e2) _ _ hl), q H2 e2⟩
theorem et_yes {σ : L2.St} {H : Hp} : EvT tYes σ H true := fun H1 _ _ q => q H1 (Ex.refl H1)
theorem noKey : ∀ i, i < 19 → [if i < 14 then "ValueError" else if i < 17 then "LookupError" else "ArithmeticError", "Exception", "BaseException", "object"].contains "KeyError" = false := by decide +kernel
theorem noIx : ∀ i, i < 19 → [if i < 14 then "ValueError" else if i < 17 then "LookupError" else "ArithmeticError", "Exception", "BaseException", "object"].contains "IndexError" = false := by decide +kernel
theorem noZero : ∀ i, i < 19 → [if i < 14 then "ValueError" else if i < 17 then "LookupError" else "ArithmeticError", "Exception", "BaseException", "object"].contains "ZeroDivisionError" = false := by decide +kernel
/-- short data -/
structure Short (B D : Nat) (d : PyData) : Prop where
  sh : d.showable = true
  le : d.shown.length ≤ B
  dp : d.depth ≤ D
theorem shownSum {B D : Nat} : ∀ {ds : List PyData}, (∀ d ∈ ds, Short B D d) → PyData.showableAll ds = true ∧ ((PyData.shownAll ds).map (·.length)).sum ≤ ds.length * B ∧ (PyData.shownAll ds).length = ds.length ∧ PyData.depthAll ds ≤ D
  | [], _ => ⟨rfl, by simp [PyData.shownAll], rfl, by simp [PyData.depthAll]⟩
  | d :: ds, h => by
    obtain ⟨h1, h2, h3, h4⟩ := shownSum (ds := ds) fun x hx => h x (List.mem_cons_of_mem _ hx)
    obtain ⟨g1, g2, g3⟩ := h d List.mem_cons_self
    refine ⟨by simp only [PyData.showableAll, g1, h1, Bool.and_self], ?_, by simp only [PyData.shownAll, List.length_cons, h3], ?_⟩
    · simp only [PyData.shownAll, List.map_cons, List.sum_cons, List.length_cons, Nat.add_mul]
      omega
    · simp only [PyData.depthAll]
      omega
theorem short_list {B D : Nat} {ds : List PyData} (h : ∀ d ∈ ds, Short B D d) : Short (ds.length * B + 2 * ds.length + 3) (D + 1) (.list ds) := by
  obtain ⟨h1, h2, h3, h4⟩ := shownSum h
  refine ⟨by simpa only [PyData.showable] using h1, ?_, by simp only [PyData.depth]; omega⟩
  have z := listText_len_le (PyData.shownAll ds)
  simp only [PyData.shown]
  omega
theorem short_tuple {B D : Nat} {ds : List PyData} (h : ∀ d ∈ ds, Short B D d) : Short (ds.length * B + 2 * ds.length + 3) (D + 1) (.tuple ds) := by
  obtain ⟨h1, h2, h3, h4⟩ := shownSum h
  refine ⟨by simpa only [PyData.showable] using h1, ?_, by simp only [PyData.depth]; omega⟩
  have z := tupleText_len_le (PyData.shownAll ds)
  simp only [PyData.shown]
  omega
theorem Short.mono {B D B' D' : Nat} {d : PyData} (h : Short B D d) (hb : B ≤ B') (hd : D ≤ D') : Short B' D' d := ⟨h.sh, Nat.le_trans h.le hb, Nat.le_trans h.dp hd⟩
theorem Short.fits {B D : Nat} {d : PyData} (h : Short B D d) (hb : B ≤ 100000) (hd : D ≤ 100) : Fits d := ⟨h.sh, sz_of (Nat.le_trans h.le hb), Nat.le_trans h.dp hd⟩
theorem shortOdd {d : PyData} (h : d ∈ oddData) : Short 300 20 d := ⟨(odd_small d h).1, Nat.le_trans (odd_small d h).2.1 (by decide), Nat.le_trans (odd_small d h).2.2 (by decide)⟩
theorem fitsAll {d e : PyData} (hd : d ∈ oddData) (he : e ∈ oddData) : Fits (.list (dueData d e)) := by
  refine Short.fits (short_list (B := 1000) (D := 30) fun z hz => ?_) ?_ (by decide)
  · unfold dueData at hz
    rcases List.mem_append.mp hz with hz | hz
    · rw [(List.mem_replicate.mp hz).2]
      exact (shortOdd hd).mono (by decide) (by decide)
    · rcases List.mem_cons.mp hz with rfl | hz
      · exact ⟨rfl, by show (4 : Nat) ≤ 1000; decide, by show (0 : Nat) ≤ 30; decide⟩
      · rcases List.mem_cons.mp hz with rfl | hz
        · exact (shortOdd hd).mono (by decide) (by decide)
        · rcases List.mem_cons.mp hz with rfl | hz
          · refine (short_tuple (B := 300) (D := 20) fun w hw => ?_).mono (by show 2 * 300 + 2 * 2 + 3 ≤ 1000; decide) (by decide)
            rcases List.mem_cons.mp hw with rfl | hw
            · exact shortOdd hd
            · rcases List.mem_cons.mp hw with rfl | hw
              · exact shortOdd he
              · cases hw
          · cases hz
  · show (dueData d e).length * 1000 + 2 * (dueData d e).length + 3 ≤ 100000
    unfold dueData
    rw [List.length_append, List.length_replicate]
    show (16 + 3) * 1000 + 2 * (16 + 3) + 3 ≤ 100000
    decide
theorem fits17 {d : PyData} (hd : d ∈ oddData) : Fits (.list (List.replicate 17 d)) := by
  refine Short.fits (short_list (B := 300) (D := 20) fun z hz => ?_) ?_ (by decide)
  · rw [(List.mem_replicate.mp hz).2]
    exact shortOdd hd
  · rw [List.length_replicate]
    decide
theorem fits2 {d e : PyData} (hd : d ∈ oddData) (he : e ∈ oddData) : Fits (.list [d, e]) := by
  refine Short.fits (short_list (B := 300) (D := 20) fun w hw => ?_) (by show 2 * 300 + 2 * 2 + 3 ≤ 100000; decide) (by decide)
  rcases List.mem_cons.mp hw with rfl | hw
  · exact shortOdd hd
  · rcases List.mem_cons.mp hw with rfl | hw
    · exact shortOdd he
    · cases hw
end L2.K01

set_option Elab.async false
set_option maxRecDepth 100000
set_option maxHeartbeats 4000000
set_option linter.all false
namespace L2.K01
open PySem PySem.Spec PyProof.Rows XK Evl XC
def spRight : Sp := fun vs H Q _ => ∃ (p : Addr) (n : Int), vs = [.ref p] ∧ PoolAt H p n ∧ n ≤ 900000 ∧
  ∀ H', PoolAt H' p (n + 2) → But p H H' → Q (.bl true) H'
section
variable {P : Program} {w : World} {K : PySem.W.Frag} {mg : Str → Option Value} {base : Heap} {a : Adr}
theorem ok_right (T : Txt K mg a) (hsys : Sys base) : FnG P w K mg base 5 a.LawRight a.fdLawRight ["_law_pool_here"] spRight := by
  have GLawOdd : FnOk P w K mg base CX0 3 a.LawOdd a.fdLawOdd ["_law_pool_here"] spOdd := ok_odd T
  have GLawError : FnOk P w K mg base CX0 1 a.LawError a.fdLawError ["_law_e"] (spError a) := ok_error T
  have GLawField : FnOk P w K mg base CX0 1 a.LawField a.fdLawField ["_law_e", "_law_at"] (spField a) := ok_field T
  refine XK.Fun.okG T.fLawRight scLawRight (fun vs H Q E h => ?_) (fun cdv A outer s H vs Q E hr hgd h => ?_)
  · obtain ⟨p, n, rfl, _⟩ := h
    rfl
  · obtain ⟨p, n, rfl, hP, hn, q⟩ := h
    refine ⟨_, (pss_cons (ps_par (i := 6) (j := 7) (by rfl) scLawRight.nd rfl rfl (by decide) rfl rfl (pa_cons (pe_call GLawOdd (hr.mono (by decide)) (by rfl) T.gLawOdd T.kLawOdd T.bLawOdd .nil pass0 (pa_cons (pv 0) pa_nil)) (pa_cons (pe_call GLawOdd (hr.mono (by decide)) (by rfl) T.gLawOdd T.kLawOdd T.bLawOdd .nil pass0 (pa_cons (pv 0) pa_nil)) pa_nil)) (by rfl))
      (pss_cons (ps_set (i := 1) scLawRight.nd rfl (by first | exact Or.inl rfl | exact Or.inr rfl) (by exact (pe_lst (pa_cons (XK.pe_newP (XK.mkGvP T.cInvalidNumber (hr.mono (by decide) : Room 1 _)) XK.hlOne T.cInvalidNumber.kC T.gInvalidNumber (pa_cons (pv 6) pa_nil)) (pa_cons (XK.pe_newK (ks := ["given"]) (XK.mkGvK T.cInvalidText (hr.mono (by decide) : Room 1 _)) XK.hlOne T.cInvalidText.kC T.gInvalidText (pk_cons (pv 6) pk_nil)) (pa_cons (XK.pe_newP (XK.mkGvP T.cInvalidName (hr.mono (by decide) : Room 1 _)) XK.hlOne T.cInvalidName.kC T.gInvalidName (pa_cons (pv 6) pa_nil)) (pa_cons (XK.pe_newK (ks := ["given"]) (XK.mkGvK T.cInvalidWish (hr.mono (by decide) : Room 1 _)) XK.hlOne T.cInvalidWish.kC T.gInvalidWish (pk_cons (pv 6) pk_nil)) (pa_cons (XK.pe_newP (XK.mkGvP T.cInvalidIndex (hr.mono (by decide) : Room 1 _)) XK.hlOne T.cInvalidIndex.kC T.gInvalidIndex (pa_cons (pv 6) pa_nil)) pa_nil))))))))
      (pss_cons (ps_set (i := 1) scLawRight.nd rfl (by first | exact Or.inl rfl | exact Or.inr rfl) (by exact (pe_op op_cat (pv 1) (pe_lst (pa_cons (XK.pe_newK (ks := ["given"]) (XK.mkGvK T.cInvalidPicture (hr.mono (by decide) : Room 1 _)) XK.hlOne T.cInvalidPicture.kC T.gInvalidPicture (pk_cons (pv 6) pk_nil)) (pa_cons (XK.pe_newP (XK.mkGvP T.cInvalidEvent (hr.mono (by decide) : Room 1 _)) XK.hlOne T.cInvalidEvent.kC T.gInvalidEvent (pa_cons (pv 6) pa_nil)) (pa_cons (XK.pe_newK (ks := ["given"]) (XK.mkGvK T.cInvalidHearing (hr.mono (by decide) : Room 1 _)) XK.hlOne T.cInvalidHearing.kC T.gInvalidHearing (pk_cons (pv 6) pk_nil)) (pa_cons (XK.pe_newP (XK.mkGvP T.cNotAHouse (hr.mono (by decide) : Room 1 _)) XK.hlOne T.cNotAHouse.kC T.gNotAHouse (pa_cons (pv 6) pa_nil)) pa_nil))))))))
      (pss_cons (ps_set (i := 1) scLawRight.nd rfl (by first | exact Or.inl rfl | exact Or.inr rfl) (by exact (pe_op op_cat (pv 1) (pe_lst (pa_cons (XK.pe_newP (XK.mkIxP T.cInvalidStands (hr.mono (by decide) : Room 1 _)) XK.hlOne T.cInvalidStands.kC T.gInvalidStands (pa_cons (pv 6) pa_nil)) (pa_cons (XK.pe_newK (ks := ["index"]) (XK.mkIxK T.cInvalidKeys (hr.mono (by decide) : Room 1 _)) XK.hlOne T.cInvalidKeys.kC T.gInvalidKeys (pk_cons (pv 6) pk_nil)) (pa_cons (XK.pe_newP (XK.mkIxP T.cInvalidRows (hr.mono (by decide) : Room 1 _)) XK.hlOne T.cInvalidRows.kC T.gInvalidRows (pa_cons (pv 6) pa_nil)) (pa_cons (XK.pe_newK (ks := ["index"]) (XK.mkIxK T.cWrongLine (hr.mono (by decide) : Room 1 _)) XK.hlOne T.cWrongLine.kC T.gWrongLine (pk_cons (pv 6) pk_nil)) pa_nil))))))))
      (pss_cons (ps_set (i := 1) scLawRight.nd rfl (by first | exact Or.inl rfl | exact Or.inr rfl) (by exact (pe_op op_cat (pv 1) (pe_lst (pa_cons (XK.pe_newP (XK.mkIxP T.cInvalidWeaving (hr.mono (by decide) : Room 1 _)) XK.hlOne T.cInvalidWeaving.kC T.gInvalidWeaving (pa_cons (pv 6) pa_nil)) (pa_cons (XK.pe_newK (ks := ["given"]) (XK.mkGvK T.cUnknownName (hr.mono (by decide) : Room 1 _)) XK.hlOne T.cUnknownName.kC T.gUnknownName (pk_cons (pv 6) pk_nil)) (pa_cons (XK.pe_newP (XK.mkIxP T.cInUse (hr.mono (by decide) : Room 1 _)) XK.hlOne T.cInUse.kC T.gInUse (pa_cons (pv 6) pa_nil)) (pa_cons (XK.pe_new0 T.cNothingToUndo (hr.mono (by decide) : Room 1 _) T.gNothingToUndo) (pa_cons (XK.pe_newK (ks := ["most"]) (XK.mkMoK T.cTooMany (hr.mono (by decide) : Room 1 _)) XK.hlOne T.cTooMany.kC T.gTooMany (pk_cons (pv 6) pk_nil)) pa_nil)))))))))
      (pss_cons (ps_expr (pe_bm PySem.F.plainAttrs_list PySem.F.slot_list_append PySem.F.type_list_append mt_append (pv 1) (pa_cons (XK.pe_newP (XK.mkBrP T.cBroken (hr.mono (by decide) : Room 1 _)) XK.hlTwo T.cBroken.kC T.gBroken (pa_cons (pv 6) (pa_cons (pv 7) pa_nil))) pa_nil)))
      (pss_cons (ps_if (pt_cmpR (op_neD hr.units) (pe_lc (own := [("_law_e", 8)]) (g := gName 8) (tt := tYes) rfl scLawRight.nd (pi_list (pv 1)) (blkOk_by (own := [("_law_e", 8)]) (N := NLawRight) (sc := defScope sLawRight) (by decide +kernel)) (fun _ _ _ _ _ => pg_name (i := 8) scLawRight.nd rfl (Or.inl rfl)) (fun _ _ _ _ _ => by exact pts_nil) (fun _ _ _ _ _ => by exact (pe_call GLawError (hr.mono (by decide)) (by rfl) T.gLawError T.kLawError T.bLawError .nil pass0 (pa_cons (pv 8) pa_nil)))) (pe_listRg rfl (by rfl) T.blist (prg_1 (by rfl) T.brange pe_int)) (nomark _)) (pss_one (ps_ret (by exact pe_bl))) pss_nil)
      (pss_cons (ps_setLc (i := 2) (own := [("_law_e", 8)]) (g := gName 8) (tt := tYes) rfl scLawRight.nd rfl rfl (sw_true rfl rfl rfl (by decide +kernel)) (pi_list (pv 1)) (blkOk_by (own := [("_law_e", 8)]) (N := NLawRight) (sc := defScope sLawRight) (by decide +kernel)) (fun _ _ _ _ _ => pg_name (i := 8) scLawRight.nd rfl (Or.inl rfl)) (fun _ _ _ _ _ => by exact pts_nil) (fun _ _ _ _ _ => by exact (pe_or (pe_callB (id := "isinstance") (r := XK.rIsX K) XK.call_isX (by rfl) T.bisinstance (by decide +kernel) (pa_cons (pv 8) (pa_cons (pe_bltn (v := .ty "KeyError") (by rfl) T.bKeyError (by decide +kernel) rfl) pa_nil))) (pe_or (pe_callB (id := "isinstance") (r := XK.rIsX K) XK.call_isX (by rfl) T.bisinstance (by decide +kernel) (pa_cons (pv 8) (pa_cons (pe_bltn (v := .ty "IndexError") (by rfl) T.bIndexError (by decide +kernel) rfl) pa_nil))) (pe_one (pe_callB (id := "isinstance") (r := XK.rIsX K) XK.call_isX (by rfl) T.bisinstance (by decide +kernel) (pa_cons (pv 8) (pa_cons (pe_bltn (v := .ty "ZeroDivisionError") (by rfl) T.bZeroDivisionError (by decide +kernel) rfl) pa_nil))))))))
      (pss_cons (ps_if (pt_val (pe_callB (cr_any rfl) (by rfl) T.bany (by decide +kernel) (pa_cons (pv 2) pa_nil))) (pss_one (ps_ret (by exact pe_bl))) pss_nil)
      (pss_cons (ps_set (i := 3) scLawRight.nd rfl (by first | exact Or.inl rfl | exact Or.inr rfl) (by exact (pe_op op_cat (pe_op op_rep (pe_lst (pa_cons (pv 6) pa_nil)) pe_int) (pe_lst (pa_cons pe_non (pa_cons (pv 6) (pa_cons (pe_tup (pa_cons (pv 6) (pa_cons (pv 7) pa_nil))) pa_nil)))))))
      (pss_cons (ps_if (pt_cmpR op_ne (pe_callB (XK.call_reprD hsys hgd (XK.room200 hr)) (by rfl) T.brepr (by decide +kernel) (pa_cons (pe_lc (own := [("_law_k", 9)]) (g := gName 9) (tt := tYes) rfl scLawRight.nd (pi_range1 (by rfl) T.brange (pa_cons pe_int pa_nil)) (blkOk_by (own := [("_law_k", 9)]) (N := NLawRight) (sc := defScope sLawRight) (by decide +kernel)) (fun _ _ _ _ _ => pg_name (i := 9) scLawRight.nd rfl (Or.inl rfl)) (fun _ _ _ _ _ => by exact pts_nil) (fun _ _ _ _ _ => by exact (pe_call GLawField (hr.mono (by decide)) (by rfl) T.gLawField T.kLawField T.bLawField .nil pass0 (pa_cons (pe_ix (r := rIxL K) ix_list (pv 1) (pv 9) (fun _ _ => rfl)) (pa_cons (pv 9) pa_nil))))) pa_nil)) (pe_callB (XK.call_reprD hsys hgd (XK.room200 hr)) (by rfl) T.brepr (by decide +kernel) (pa_cons (pv 3) pa_nil)) (nomark _)) (pss_one (ps_ret (by exact pe_bl))) pss_nil)
      (pss_cons (ps_set (i := 4) scLawRight.nd rfl (by first | exact Or.inl rfl | exact Or.inr rfl) (by exact (pe_lst (pa_cons (XK.pe_xfld (XK.pe_newK (ks := ["given"]) (XK.mkGvK T.cInvalidNumber (hr.mono (by decide) : Room 1 _)) XK.hlOne T.cInvalidNumber.kC T.gInvalidNumber (pk_cons (pv 6) pk_nil))) (pa_cons (XK.pe_xfld (XK.pe_newP (XK.mkGvP T.cInvalidText (hr.mono (by decide) : Room 1 _)) XK.hlOne T.cInvalidText.kC T.gInvalidText (pa_cons (pv 6) pa_nil))) (pa_cons (XK.pe_xfld (XK.pe_newK (ks := ["given"]) (XK.mkGvK T.cInvalidName (hr.mono (by decide) : Room 1 _)) XK.hlOne T.cInvalidName.kC T.gInvalidName (pk_cons (pv 6) pk_nil))) pa_nil))))))
      (pss_cons (ps_set (i := 4) scLawRight.nd rfl (by first | exact Or.inl rfl | exact Or.inr rfl) (by exact (pe_op op_cat (pv 4) (pe_lst (pa_cons (XK.pe_xfld (XK.pe_newP (XK.mkGvP T.cInvalidWish (hr.mono (by decide) : Room 1 _)) XK.hlOne T.cInvalidWish.kC T.gInvalidWish (pa_cons (pv 6) pa_nil))) (pa_cons (XK.pe_xfld (XK.pe_newK (ks := ["given"]) (XK.mkGvK T.cInvalidIndex (hr.mono (by decide) : Room 1 _)) XK.hlOne T.cInvalidIndex.kC T.gInvalidIndex (pk_cons (pv 6) pk_nil))) (pa_cons (XK.pe_xfld (XK.pe_newP (XK.mkGvP T.cInvalidPicture (hr.mono (by decide) : Room 1 _)) XK.hlOne T.cInvalidPicture.kC T.gInvalidPicture (pa_cons (pv 6) pa_nil))) pa_nil)))))))
      (pss_cons (ps_set (i := 4) scLawRight.nd rfl (by first | exact Or.inl rfl | exact Or.inr rfl) (by exact (pe_op op_cat (pv 4) (pe_lst (pa_cons (XK.pe_xfld (XK.pe_newK (ks := ["given"]) (XK.mkGvK T.cInvalidEvent (hr.mono (by decide) : Room 1 _)) XK.hlOne T.cInvalidEvent.kC T.gInvalidEvent (pk_cons (pv 6) pk_nil))) (pa_cons (XK.pe_xfld (XK.pe_newP (XK.mkGvP T.cInvalidHearing (hr.mono (by decide) : Room 1 _)) XK.hlOne T.cInvalidHearing.kC T.gInvalidHearing (pa_cons (pv 6) pa_nil))) (pa_cons (XK.pe_xfld (XK.pe_newK (ks := ["given"]) (XK.mkGvK T.cNotAHouse (hr.mono (by decide) : Room 1 _)) XK.hlOne T.cNotAHouse.kC T.gNotAHouse (pk_cons (pv 6) pk_nil))) pa_nil)))))))
      (pss_cons (ps_set (i := 4) scLawRight.nd rfl (by first | exact Or.inl rfl | exact Or.inr rfl) (by exact (pe_op op_cat (pv 4) (pe_lst (pa_cons (XK.pe_xfld (XK.pe_newK (ks := ["index"]) (XK.mkIxK T.cInvalidStands (hr.mono (by decide) : Room 1 _)) XK.hlOne T.cInvalidStands.kC T.gInvalidStands (pk_cons (pv 6) pk_nil))) (pa_cons (XK.pe_xfld (XK.pe_newP (XK.mkIxP T.cInvalidKeys (hr.mono (by decide) : Room 1 _)) XK.hlOne T.cInvalidKeys.kC T.gInvalidKeys (pa_cons (pv 6) pa_nil))) (pa_cons (XK.pe_xfld (XK.pe_newK (ks := ["index"]) (XK.mkIxK T.cInvalidRows (hr.mono (by decide) : Room 1 _)) XK.hlOne T.cInvalidRows.kC T.gInvalidRows (pk_cons (pv 6) pk_nil))) pa_nil)))))))
      (pss_cons (ps_set (i := 4) scLawRight.nd rfl (by first | exact Or.inl rfl | exact Or.inr rfl) (by exact (pe_op op_cat (pv 4) (pe_lst (pa_cons (XK.pe_xfld (XK.pe_newP (XK.mkIxP T.cWrongLine (hr.mono (by decide) : Room 1 _)) XK.hlOne T.cWrongLine.kC T.gWrongLine (pa_cons (pv 6) pa_nil))) (pa_cons (XK.pe_xfld (XK.pe_newK (ks := ["index"]) (XK.mkIxK T.cInvalidWeaving (hr.mono (by decide) : Room 1 _)) XK.hlOne T.cInvalidWeaving.kC T.gInvalidWeaving (pk_cons (pv 6) pk_nil))) (pa_cons (XK.pe_xfld (XK.pe_newP (XK.mkGvP T.cUnknownName (hr.mono (by decide) : Room 1 _)) XK.hlOne T.cUnknownName.kC T.gUnknownName (pa_cons (pv 6) pa_nil))) pa_nil)))))))
      (pss_cons (ps_set (i := 4) scLawRight.nd rfl (by first | exact Or.inl rfl | exact Or.inr rfl) (by exact (pe_op op_cat (pv 4) (pe_lst (pa_cons (XK.pe_xfld (XK.pe_newK (ks := ["index"]) (XK.mkIxK T.cInUse (hr.mono (by decide) : Room 1 _)) XK.hlOne T.cInUse.kC T.gInUse (pk_cons (pv 6) pk_nil))) (pa_cons (XK.pe_xfld (XK.pe_newP (XK.mkMoP T.cTooMany (hr.mono (by decide) : Room 1 _)) XK.hlOne T.cTooMany.kC T.gTooMany (pa_cons (pv 6) pa_nil))) pa_nil))))))
      (pss_cons (ps_set (i := 5) scLawRight.nd rfl (by first | exact Or.inl rfl | exact Or.inr rfl) (by exact (XK.pe_newK (ks := ["shown", "index"]) (XK.mkBrR T.cBroken (hr.mono (by decide) : Room 1 _)) XK.hlTwoR T.cBroken.kC T.gBroken (pk_cons (pv 6) (pk_cons (pv 7) pk_nil)))))
      (pss_one (ps_ret (by exact (pe_and (pe_cmpR op_eq (pe_callB (XK.call_reprD hsys hgd (XK.room200 hr)) (by rfl) T.brepr (by decide +kernel) (pa_cons (pv 4) pa_nil)) (pe_callB (XK.call_reprD hsys hgd (XK.room200 hr)) (by rfl) T.brepr (by decide +kernel) (pa_cons (pe_op op_rep (pe_lst (pa_cons (pv 6) pa_nil)) pe_int) pa_nil)) (nomark _)) (pe_one (pe_cmpR op_eq (pe_callB (XK.call_reprD hsys hgd (XK.room200 hr)) (by rfl) T.brepr (by decide +kernel) (pa_cons (pe_lst (pa_cons (XK.pe_xfld (pv 5)) (pa_cons (XK.pe_xfld (pv 5)) pa_nil))) pa_nil)) (pe_callB (XK.call_reprD hsys hgd (XK.room200 hr)) (by rfl) T.brepr (by decide +kernel) (pa_cons (pe_lst (pa_cons (pv 7) (pa_cons (pv 6) pa_nil))) pa_nil)) (nomark _))))))))))))))))))))))))), ?_⟩
    refine ⟨_, rfl, p, n, rfl, hP, by omega, fun H1 x dx hP1 b1 hx1 mx => ?_⟩
    refine ⟨_, rfl, p, n + 1, rfl, hP1, by omega, fun H2 y dy hP2 b2 hy2 my => ?_⟩
    have hx2 := hx1.same (butDel b2)
    refine ⟨_, _, rfl, ?_⟩
    dsimp only
    have bP : But p H H2 := b1.trans b2
    have hP2' : PoolAt H2 p (n + 2) := hP2.le (by omega)
    refine s_asgEL (x := x) (y := y) (is := [0, 1, 2, 3, 4]) (eel_lst (eea_cons (by exact ee_new rfl (ea_cons (ev_var (by rfl)) ea_nil) rfl) (eea_cons (by exact ee_new rfl (ea_cons (ev_var (by rfl)) ea_nil) rfl) (eea_cons (by exact ee_new rfl (ea_cons (ev_var (by rfl)) ea_nil) rfl) (eea_cons (by exact ee_new rfl (ea_cons (ev_var (by rfl)) ea_nil) rfl) (eea_cons (by exact ee_new rfl (ea_cons (ev_var (by rfl)) ea_nil) rfl) eea_nil))))) (by show 5 ≤ 100000; decide)) fun l3 xs3 H3 n3 e3 h3 r3 => ?_
    have x3 := e3
    dsimp only
    refine s_asgEL (x := x) (y := y) (is := [0, 1, 2, 3, 4] ++ [5, 6, 7, 8]) (eel_cat (ev_var (by rfl)) h3 r3 (eel_lst (eea_cons (by exact ee_new rfl (ea_cons (ev_var (by rfl)) ea_nil) rfl) (eea_cons (by exact ee_new rfl (ea_cons (ev_var (by rfl)) ea_nil) rfl) (eea_cons (by exact ee_new rfl (ea_cons (ev_var (by rfl)) ea_nil) rfl) (eea_cons (by exact ee_new rfl (ea_cons (ev_var (by rfl)) ea_nil) rfl) eea_nil)))) (by show 4 ≤ 100000; decide)) (by show 5 + 4 ≤ 100000; decide)) fun l4 xs4 H4 n4 e4 h4 r4 => ?_
    have x4 := x3.trans e4
    dsimp only
    refine s_asgEL (x := x) (y := y) (is := [0, 1, 2, 3, 4, 5, 6, 7, 8] ++ [9, 10, 11, 12]) (eel_cat (ev_var (by rfl)) h4 r4 (eel_lst (eea_cons (by exact ee_new rfl (ea_cons (ev_var (by rfl)) ea_nil) rfl) (eea_cons (by exact ee_new rfl (ea_cons (ev_var (by rfl)) ea_nil) rfl) (eea_cons (by exact ee_new rfl (ea_cons (ev_var (by rfl)) ea_nil) rfl) (eea_cons (by exact ee_new rfl (ea_cons (ev_var (by rfl)) ea_nil) rfl) eea_nil)))) (by show 4 ≤ 100000; decide)) (by show 9 + 4 ≤ 100000; decide)) fun l5 xs5 H5 n5 e5 h5 r5 => ?_
    have x5 := x4.trans e5
    dsimp only
    refine s_asgEL (x := x) (y := y) (is := [0, 1, 2, 3, 4, 5, 6, 7, 8, 9, 10, 11, 12] ++ [13, 14, 15, 16, 17]) (eel_cat (ev_var (by rfl)) h5 r5 (eel_lst (eea_cons (by exact ee_new rfl (ea_cons (ev_var (by rfl)) ea_nil) rfl) (eea_cons (by exact ee_new rfl (ea_cons (ev_var (by rfl)) ea_nil) rfl) (eea_cons (by exact ee_new rfl (ea_cons (ev_var (by rfl)) ea_nil) rfl) (eea_cons (by exact ee_new0 rfl) (eea_cons (by exact ee_new rfl (ea_cons (ev_var (by rfl)) ea_nil) rfl) eea_nil))))) (by show 5 ≤ 100000; decide)) (by show 13 + 5 ≤ 100000; decide)) fun l6 xs6 H6 n6 e6 h6 r6 => ?_
    have x6 := x5.trans e6
    have n6' : H2 l6 = none := fresh_back x5 n6
    dsimp only
    refine s_appE (x := x) (y := y) (n := 18) h6 (ev_var (by rfl)) (by exact ee_new rfl (ea_cons (ev_var (by rfl)) (ea_cons (ev_var (by rfl)) ea_nil)) rfl) (by rw [r6.len]; show 18 < 100000; decide) fun eb Cb H7 e7 hb => ?_
    obtain ⟨G, hG⟩ : ∃ G, G = upd H7 l6 (.lst (xs6 ++ [.ref eb])) := ⟨_, rfl⟩
    have xG : Ex H2 G := by rw [hG]; exact Ex.mut (x6.trans e7) n6'
    have hl : G l6 = some (.lst (xs6 ++ [.ref eb])) := by rw [hG]; exact upd_same
    have rG : Errs a G x y (xs6 ++ [.ref eb]) (List.range 19) := by
      rw [hG]
      exact (((r6.ex e7).del (e7 _ _ h6)).append (.cons (hb.del (e7 _ _ h6)) .nil)).ex delUpd
    have len : (xs6 ++ [V.ref eb]).length = 19 := rG.len
    obtain ⟨xs, hxs⟩ : ∃ xs, xs = xs6 ++ [V.ref eb] := ⟨_, rfl⟩
    rw [← hxs] at hl rG len
    have at_ : ∀ {i : Nat} {v : V}, xs[i]? = some v → i < 19 ∧ ∃ e C, v = .ref e ∧ ErrAt a G e i C (fieldsOf i x y) := fun {i v} hv => by
      obtain ⟨e, j, C, h1, h2, h3⟩ := rG.get hv
      have hi : i < 19 := by
        have := (List.getElem?_eq_some_iff.mp hv).1
        omega
      have hj : j = i := by
        rw [List.getElem?_range hi] at h2
        exact (Option.some.inj h2).symm
      subst hj
      exact ⟨hi, e, C, h1, h3⟩
    dsimp only
    rw [← hG]
    -- if [error(e) for e in some] != list(range(19))
    have g1 : given xs.length (fun _ => true) (fun i => V.int (i : Int)) = ((List.range 19).map fun (i : Nat) => (i : Int)).map V.int := by
      rw [len]
      rfl
    refine s_if (b := false) (et_test (ev_opLL (el_lcL (fun _ => true) (fun i => .int (i : Int)) (ev_var (by rfl)) (sq_of hl) (by omega) (fun _ => rfl) (fun i v H' e' hv => et_yes) (fun i v H' e' hv _ => ?_)) (el_listRg (n := 19) (by decide)) fun l q H' hl' hq' e' => ?_)) (fun hb => Bool.noConfusion hb) fun _ H8 e8 => ?_
    · obtain ⟨hi, e, C, rfl, hE⟩ := at_ hv
      exact ev_call (ea_cons (ev_var (by rfl)) ea_nil) fun H'' e'' Q' hQ' E' => ⟨e, i, C, _, rfl, hE.ex (e'.trans e''), fun H3 x3 => hQ' H3 x3⟩
    · refine rv_neInts (ns := (List.range 19).map fun (i : Nat) => (i : Int)) ?_ ?_
      · rw [hl', g1]
      · rw [hq']
        rfl
    have x8 := xG.trans e8
    dsimp only [tNext, tSeq]
    -- below
    have g2 : given xs.length (fun _ => true) (fun _ => V.bl false) = (List.replicate 19 false).map V.bl := by
      rw [len]
      rfl
    refine s_asgL (xs := (List.replicate 19 false).map V.bl) ?_ fun l9 H9 n9 e9 h9 => ?_
    · rw [← g2]
      refine el_lcL (fun _ => true) (fun _ => .bl false) (ev_var (by rfl)) (sq_of (e8 _ _ hl)) (by omega) (fun _ => rfl) (fun i v H' e' hv => et_yes) (fun i v H' e' hv _ => ?_)
      obtain ⟨hi, e, C, rfl, hE⟩ := at_ hv
      have hE' := hE.ex (e8.trans e')
      exact ev_orV (a := false) (b := false || false) (by exact ev_blt T hE' (ev_var (by rfl)) "KeyError" (by decide +kernel) (noKey i hi)) fun _ => ev_orV (by exact ev_blt T hE' (ev_var (by rfl)) "IndexError" (by decide +kernel) (noIx i hi)) fun _ => by exact ev_blt T hE' (ev_var (by rfl)) "ZeroDivisionError" (by decide +kernel) (noZero i hi)
    have x9 := x8.trans e9
    dsimp only
    refine s_if (b := false) (et_test (ev_any (bs := List.replicate 19 false) (ev_var (by rfl)) h9)) (fun hb => Bool.noConfusion hb) fun _ H10 e10 => ?_
    have x10 := x9.trans e10
    dsimp only [tNext, tSeq]
    -- due
    obtain ⟨pa, pb, pc, hpool, _⟩ := hP2'.ex x10
    have dX := hx2.same (exDel x10)
    have dY := hy2.same (exDel x10)
    refine s_asgDL (p := p) (ds := dueData dx dy) ?_ fun l11 xs11 H11 n11 e11 h11 d11 => ?_
    · refine edl_catN hpool (el_rep (xs := [x]) (k := 16) (el_lst (ea_cons (ev_var (by rfl)) ea_nil) (by show 1 ≤ 100000; decide)) (by decide) (by show 1 * 16 ≤ 100000; decide)) (DxAll.rep dX 16) (fun H' e' => ?_) (by show 16 + 3 ≤ 100000; decide)
      have dX' := dX.same (exDel e')
      have dY' := dY.same (exDel e')
      exact edl_lst (e' _ _ hpool) (eda_cons (ed_ev ev_c fun _ => .non) (eda_cons (ed_var (ev_var (by rfl)) dX') (eda_cons (ed_tup (e' _ _ hpool) (eda_cons (ed_var (ev_var (by rfl)) dX') (eda_cons (ed_var (ev_var (by rfl)) dY') eda_nil)) (by show 2 ≤ 100000; decide)) eda_nil))) (by show 3 ≤ 100000; decide)
    have x11 := x10.trans e11
    have fX : Dx H11 x dx := (dX.same (exDel e11)).same delEx
    have fY : Dx H11 y dy := (dY.same (exDel e11)).same delEx
    have hl11 : H11 l6 = some (.lst xs) := ((e8.trans e9).trans (e10.trans e11)) _ _ hl
    dsimp only
    -- if repr([field(..) ..]) != repr(due)
    refine s_if (b := false) (et_test (ev_is (ev_op (ev_reprS (ds := dueData dx dy) ?_ (fitsAll mx my)) (ev_repr (d := .list (dueData dx dy)) (ev_var (by rfl)) (.lst h11 (d11.same delEx)) (fitsAll mx my)) (rv_ne rfl)) (by simp))) (fun hb => Bool.noConfusion hb) fun _ H12 e12 => ?_
    · refine eds_lcR1 (n := 19) (fun k => if k < 16 then dx else if k = 16 then .none else if k = 17 then dx else .tuple [dx, dy]) (ea_cons ev_c ea_nil) (by decide) (fun _ => rfl) fun i D H' o hD keep hDo hi => ?_
      intro H'' e'' Q' hQ'
      have hl' : H' l6 = some (.lst xs) := delEx _ _ (keep _ _ hl11)
      obtain ⟨v, hv⟩ : ∃ v, xs[i]? = some v := ⟨_, List.getElem?_eq_getElem (by omega)⟩
      obtain ⟨_, e, C, rfl, hE⟩ := at_ hv
      have hE11 := hE.ex ((e8.trans e9).trans (e10.trans e11))
      have hE' : ErrAt a H'' e i C (fieldsOf i x y) := (hE11.ex keep).ex (fun b o hb => e'' b o (delEx b o hb))
      refine (ea_cons (ev_op (ev_var (by rfl)) (ev_var (by rfl)) (rv_ixL (sq_of (e'' _ _ hl')) (atI_nat hv))) (ea_cons (ev_var (by rfl)) ea_nil)) H'' (Ex.refl _) _ fun H3 e3 => ?_
      refine ⟨e, i, C, x, y, rfl, hE'.ex e3, fun H4 w e4 hF => hQ' w H4 (e3.trans e4) ?_⟩
      have ed : Ex H11 (delH H4 D) := fun b o hb => exDel ((e''.trans e3).trans e4) b o (keep b o hb)
      obtain ⟨f1, f2, f3⟩ := hF
      by_cases c16 : i = 16
      · rw [f1 c16]
        subst c16
        exact .non
      · by_cases c18 : i = 18
        · obtain ⟨t, rfl, ht⟩ := f2 c18
          subst c18
          have hDo4 := ((e''.trans e3).trans e4) _ _ hDo
          refine .tup (xs := [x, y]) ?_ (.cons (fX.same ed) (.cons (fY.same ed) .nil))
          rw [delH_ne]
          · exact ht
          · intro z
            rw [z, hDo4] at ht
            cases ht
        · rw [f3 c16 c18]
          have : (if i < 16 then dx else if i = 16 then PyData.none else if i = 17 then dx else .tuple [dx, dy]) = dx := by
            by_cases c : i < 16
            · rw [if_pos c]
            · rw [if_neg c, if_neg c16, if_pos (by omega)]
          rw [this]
          exact fX.same ed
    have x12 := x11.trans e12
    dsimp only [tNext, tSeq]

    refine s_asgL (xs := [x, x, x]) (el_lst (ea_cons (by exact ev_newFld (x := x) (y := y) T (i := 0) (ee_new rfl (ea_cons (ev_var (by rfl)) ea_nil) rfl) (by decide) rfl fun C W B h => (noField T h).2.1 (by decide)) (ea_cons (by exact ev_newFld (x := x) (y := y) T (i := 1) (ee_new rfl (ea_cons (ev_var (by rfl)) ea_nil) rfl) (by decide) rfl fun C W B h => (noField T h).2.1 (by decide)) (ea_cons (by exact ev_newFld (x := x) (y := y) T (i := 2) (ee_new rfl (ea_cons (ev_var (by rfl)) ea_nil) rfl) (by decide) rfl fun C W B h => (noField T h).2.1 (by decide)) ea_nil))) (by show 3 ≤ 100000; decide)) fun l13 H13 n13 e13 h13 => ?_
    have x13 := x12.trans e13
    dsimp only
    refine s_asgL (xs := [x, x, x] ++ [x, x, x]) (el_cat (ev_var (by rfl)) h13 (el_lst (ea_cons (by exact ev_newFld (x := x) (y := y) T (i := 3) (ee_new rfl (ea_cons (ev_var (by rfl)) ea_nil) rfl) (by decide) rfl fun C W B h => (noField T h).2.1 (by decide)) (ea_cons (by exact ev_newFld (x := x) (y := y) T (i := 4) (ee_new rfl (ea_cons (ev_var (by rfl)) ea_nil) rfl) (by decide) rfl fun C W B h => (noField T h).2.1 (by decide)) (ea_cons (by exact ev_newFld (x := x) (y := y) T (i := 5) (ee_new rfl (ea_cons (ev_var (by rfl)) ea_nil) rfl) (by decide) rfl fun C W B h => (noField T h).2.1 (by decide)) ea_nil))) (by show 3 ≤ 100000; decide)) (by show 3 + 3 ≤ 100000; decide)) fun l14 H14 n14 e14 h14 => ?_
    have x14 := x13.trans e14
    dsimp only
    refine s_asgL (xs := [x, x, x, x, x, x] ++ [x, x, x]) (el_cat (ev_var (by rfl)) h14 (el_lst (ea_cons (by exact ev_newFld (x := x) (y := y) T (i := 6) (ee_new rfl (ea_cons (ev_var (by rfl)) ea_nil) rfl) (by decide) rfl fun C W B h => (noField T h).2.1 (by decide)) (ea_cons (by exact ev_newFld (x := x) (y := y) T (i := 7) (ee_new rfl (ea_cons (ev_var (by rfl)) ea_nil) rfl) (by decide) rfl fun C W B h => (noField T h).2.1 (by decide)) (ea_cons (by exact ev_newFld (x := x) (y := y) T (i := 8) (ee_new rfl (ea_cons (ev_var (by rfl)) ea_nil) rfl) (by decide) rfl fun C W B h => (noField T h).2.1 (by decide)) ea_nil))) (by show 3 ≤ 100000; decide)) (by show 6 + 3 ≤ 100000; decide)) fun l15 H15 n15 e15 h15 => ?_
    have x15 := x14.trans e15
    dsimp only
    refine s_asgL (xs := [x, x, x, x, x, x, x, x, x] ++ [x, x, x]) (el_cat (ev_var (by rfl)) h15 (el_lst (ea_cons (by exact ev_newFld (x := x) (y := y) T (i := 9) (ee_new rfl (ea_cons (ev_var (by rfl)) ea_nil) rfl) (by decide) rfl fun C W B h => (noField T h).2.2.2.2 (by decide) (by decide) (by decide) (by decide)) (ea_cons (by exact ev_newFld (x := x) (y := y) T (i := 10) (ee_new rfl (ea_cons (ev_var (by rfl)) ea_nil) rfl) (by decide) rfl fun C W B h => (noField T h).2.2.2.2 (by decide) (by decide) (by decide) (by decide)) (ea_cons (by exact ev_newFld (x := x) (y := y) T (i := 11) (ee_new rfl (ea_cons (ev_var (by rfl)) ea_nil) rfl) (by decide) rfl fun C W B h => (noField T h).2.2.2.2 (by decide) (by decide) (by decide) (by decide)) ea_nil))) (by show 3 ≤ 100000; decide)) (by show 9 + 3 ≤ 100000; decide)) fun l16 H16 n16 e16 h16 => ?_
    have x16 := x15.trans e16
    dsimp only
    refine s_asgL (xs := [x, x, x, x, x, x, x, x, x, x, x, x] ++ [x, x, x]) (el_cat (ev_var (by rfl)) h16 (el_lst (ea_cons (by exact ev_newFld (x := x) (y := y) T (i := 12) (ee_new rfl (ea_cons (ev_var (by rfl)) ea_nil) rfl) (by decide) rfl fun C W B h => (noField T h).2.2.2.2 (by decide) (by decide) (by decide) (by decide)) (ea_cons (by exact ev_newFld (x := x) (y := y) T (i := 13) (ee_new rfl (ea_cons (ev_var (by rfl)) ea_nil) rfl) (by decide) rfl fun C W B h => (noField T h).2.2.2.2 (by decide) (by decide) (by decide) (by decide)) (ea_cons (by exact ev_newFld (x := x) (y := y) T (i := 14) (ee_new rfl (ea_cons (ev_var (by rfl)) ea_nil) rfl) (by decide) rfl fun C W B h => (noField T h).2.1 (by decide)) ea_nil))) (by show 3 ≤ 100000; decide)) (by show 12 + 3 ≤ 100000; decide)) fun l17 H17 n17 e17 h17 => ?_
    have x17 := x16.trans e17
    dsimp only
    refine s_asgL (xs := [x, x, x, x, x, x, x, x, x, x, x, x, x, x, x] ++ [x, x]) (el_cat (ev_var (by rfl)) h17 (el_lst (ea_cons (by exact ev_newFld (x := x) (y := y) T (i := 15) (ee_new rfl (ea_cons (ev_var (by rfl)) ea_nil) rfl) (by decide) rfl fun C W B h => (noField T h).2.2.2.2 (by decide) (by decide) (by decide) (by decide)) (ea_cons (by exact ev_newFld (x := x) (y := y) T (i := 17) (ee_new rfl (ea_cons (ev_var (by rfl)) ea_nil) rfl) (by decide) rfl fun C W B h => (noField T h).2.2.1 (by decide)) ea_nil)) (by show 2 ≤ 100000; decide)) (by show 15 + 2 ≤ 100000; decide)) fun l18 H18 n18 e18 h18 => ?_
    have x18 := x17.trans e18
    dsimp only
    refine s_asgE (x := y) (y := x) (n := 18) (by exact ee_new rfl (ea_cons (ev_var (by rfl)) (ea_cons (ev_var (by rfl)) ea_nil)) rfl) fun eL CL H19 e19 hL => ?_
    have x19 := x18.trans e19
    have toL : Ex H11 H19 := e12.trans (e13.trans (e14.trans (e15.trans (e16.trans (e17.trans (e18.trans e19))))))
    have kX := fX.same toL
    have kY := fY.same toL
    obtain ⟨WL, BL, hsL⟩ := hL.is
    have nI := (noField T hsL).2.2.2.2 (by decide) (by decide) (by decide) (by decide)
    have nS := (noField T hsL).2.2.2.1 rfl
    dsimp only
    refine s_ret (v := .bl true) (ev_is (ev_andV (a := decide (V.str (PyData.list (List.replicate 17 dx)).shown = V.str (PyData.list (List.replicate 17 dx)).shown)) (b := decide (V.str (PyData.list [dy, dx]).shown = V.str (PyData.list [dy, dx]).shown))
      (ev_op (ev_repr (d := .list (List.replicate 17 dx)) (ev_var (by rfl)) (.lst (e19 _ _ h18) (DxAll.rep kX 17)) (fits17 mx)) (ev_reprL (xs := (List.replicate 17 [x]).flatten) (el_rep (k := 17) (el_lst (ea_cons (ev_var (by rfl)) ea_nil) (by show 1 ≤ 100000; decide)) (by decide) (by show 1 * 17 ≤ 100000; decide)) (DxAll.rep kX 17) (fits17 mx)) (rv_eq rfl))
      fun _ => ev_op (ev_reprL (xs := [y, x]) (el_lst (ea_cons (by exact ev_field T hL (by decide) (ev_var (by rfl)) rfl nI) (ea_cons (by exact ev_field T hL (by decide) (ev_var (by rfl)) rfl nS) ea_nil)) (by show 2 ≤ 100000; decide)) (.cons kY (.cons kX .nil)) (fits2 my mx))
        (ev_reprL (xs := [y, x]) (el_lst (ea_cons (ev_var (by rfl)) (ea_cons (ev_var (by rfl)) ea_nil)) (by show 2 ≤ 100000; decide)) (.cons kY (.cons kX .nil)) (fits2 my mx)) (rv_eq rfl)) (by simp)) fun H20 e20 => ?_
    exact q H20 (hP2'.ex (x19.trans e20)) (bP.trans (But.of (x19.trans e20)))

end
end L2.K01

set_option Elab.async false
set_option maxRecDepth 100000
set_option maxHeartbeats 4000000
set_option linter.all false
namespace L2.K01
open PySem PySem.Spec PyProof.Rows XK Evl XC
def spLimits : Sp := fun vs H Q _ => vs = [] ∧ ∀ H', Ex H H' → Q (.bl true) H'
def spLaw (K : PySem.W.Frag) : Sp := fun vs H Q _ => ∃ (c : Addr) (ns : List Int), vs = [.ref c] ∧ SqL K H c (ns.map V.int) ∧ ns.length ≤ 63 ∧ ∀ H', Q (.bl true) H'
def limData : List PyData := [.int 3, .int 6, .int 3, .int 16, .int 4, .int 4, .int 20, .int 3000]
theorem limText : (PyData.list limData).shown = ("[3, 6, 3, 16, 4, 4, 20, 3000]" : Str) := by decide +kernel
theorem limFits : Fits (.list limData) := ⟨by decide +kernel, sz_of (by decide +kernel), by decide +kernel⟩
theorem sq_but {K : PySem.W.Frag} {H1 H2 H3 : Hp} {c p : Addr} {xs : List V} (h : SqL K H1 c xs) (hp : H1 p = none) (e : Ex H1 H2) (b : But p H2 H3) : SqL K H3 c xs := by
  rcases h with h | h
  · have hc : ∀ o, H1 c = some o → H3 c = some o := fun o ho => b c o (ne_of_none ho hp) (e c o ho)
    rcases h with h | ⟨o, h⟩
    · exact .inl (.inl (hc _ h))
    · exact .inl (.inr ⟨o, hc _ h⟩)
  · exact .inr h
section
variable {P : Program} {w : World} {K : PySem.W.Frag} {mg : Str → Option Value} {base : Heap} {a : Adr}
theorem ok_limits (T : Txt K mg a) (hsys : Sys base) : FnG P w K mg base 1 a.LawLimits a.fdLawLimits [] spLimits := by
  refine XK.Fun.okG T.fLawLimits scLawLimits (fun vs H Q E h => ?_) (fun cdv A outer s H vs Q E hr hgd h => ?_)
  · obtain ⟨rfl, _⟩ := h
    rfl
  · obtain ⟨rfl, q⟩ := h
    refine ⟨_, (pss_cons (ps_set (i := 0) scLawLimits.nd rfl (by first | exact Or.inl rfl | exact Or.inr rfl) (by exact (pe_lst (pa_cons (pe_glob (v := .int 3) rfl T.mgMostLines ⟨_, rfl⟩) (pa_cons (pe_glob (v := .int 6) rfl T.mgMostStands ⟨_, rfl⟩) (pa_cons (pe_glob (v := .int 3) rfl T.mgMostKeys ⟨_, rfl⟩) (pa_cons (pe_glob (v := .int 16) rfl T.mgMostRows ⟨_, rfl⟩) (pa_cons (pe_glob (v := .int 4) rfl T.mgMostConditions ⟨_, rfl⟩) (pa_cons (pe_glob (v := .int 4) rfl T.mgMostDeeds ⟨_, rfl⟩) (pa_cons (pe_glob (v := .int 20) rfl T.mgMostPhones ⟨_, rfl⟩) (pa_cons (pe_glob (v := .int 3000) rfl T.mgMostShapes ⟨_, rfl⟩) pa_nil)))))))))))
      (pss_one (ps_ret (by exact (pe_cmpR op_eq (pe_callB (XK.call_reprD hsys hgd (XK.room200 hr)) (by rfl) T.brepr (by decide +kernel) (pa_cons (pv 0) pa_nil)) pe_str (nomark _)))))), ?_⟩
    refine s_asgL (xs := [.int 3, .int 6, .int 3, .int 16, .int 4, .int 4, .int 20, .int 3000]) (el_lst (ea_cons ev_c (ea_cons ev_c (ea_cons ev_c (ea_cons ev_c (ea_cons ev_c (ea_cons ev_c (ea_cons ev_c (ea_cons ev_c ea_nil)))))))) (by show 8 ≤ 100000; decide)) fun l H1 n1 e1 h1 => ?_
    dsimp only
    refine s_ret (v := .bl true) (ev_is (ev_op (ev_repr (d := .list limData) (ev_var (by rfl)) (.lst h1 (.cons (.int _) (.cons (.int _) (.cons (.int _) (.cons (.int _) (.cons (.int _) (.cons (.int _) (.cons (.int _) (.cons (.int _) .nil))))))))) limFits) ev_c (rv_eq rfl)) ?_) fun H2 e2 => q _ (e1.trans e2)
    rw [limText]
    simp
theorem ok_law (T : Txt K mg a) (hsys : Sys base) : FnG P w K mg base 6 a.Law a.fdLaw ["_law_cells"] (spLaw K) := by
  have GLawLimits : FnG P w K mg base 1 a.LawLimits a.fdLawLimits [] spLimits := ok_limits T hsys
  have GLawPool : FnOk P w K mg base CX0 1 a.LawPool a.fdLawPool ["_law_cells", "_law_turn"] (spPool K) := ok_pool T
  have GLawRight : FnG P w K mg base 5 a.LawRight a.fdLawRight ["_law_pool_here"] spRight := ok_right T hsys
  refine XK.Fun.okG T.fLaw scLaw (fun vs H Q E h => ?_) (fun cdv A outer s H vs Q E hr hgd h => ?_)
  · obtain ⟨c, ns, rfl, _⟩ := h
    rfl
  · obtain ⟨c, ns, rfl, hS, hlen, q⟩ := h
    refine ⟨_, (pss_cons (ps_if (pt_not (pt_val (XK.pe_callG0 GLawLimits (hr.mono (by decide)) hgd (by rfl) T.gLawLimits T.kLawLimits T.bLawLimits))) (pss_one (ps_ret (by exact pe_bl))) pss_nil)
      (pss_cons (ps_for PassesOwn.never rfl (pi_range1 (by rfl) T.brange (pa_cons (pe_callB (call_max2 rfl) (by rfl) T.bmax (by decide +kernel) (pa_cons pe_int (pa_cons (pe_callB (call_min2 rfl) (by rfl) T.bmin (by decide +kernel) (pa_cons (pe_callB call_len (by rfl) T.blen (by decide +kernel) (pa_cons (pv 0) pa_nil)) (pa_cons pe_int pa_nil))) pa_nil))) pa_nil)) (pg_name (i := 1) scLaw.nd rfl (by first | exact Or.inl rfl | exact Or.inr rfl)) (pss_cons (ps_set (i := 2) scLaw.nd rfl (by first | exact Or.inl rfl | exact Or.inr rfl) (by exact (pe_call GLawPool (hr.mono (by decide)) (by rfl) T.gLawPool T.kLawPool T.bLawPool .nil pass0 (pa_cons (pv 0) (pa_cons (pv 1) pa_nil)))))
      (pss_one (ps_for PassesOwn.never rfl (pi_range1 (by rfl) T.brange (pa_cons pe_int pa_nil)) (pg_name (i := 3) scLaw.nd rfl (by first | exact Or.inl rfl | exact Or.inr rfl)) (pss_one (ps_if (pt_not (pt_val (XK.pe_callG GLawRight (hr.mono (by decide)) hgd (by rfl) T.gLawRight T.kLawRight T.bLawRight (pa_cons (pv 2) pa_nil)))) (pss_one (ps_ret (by exact pe_bl))) pss_nil))))))
      (pss_one (ps_ret (by exact pe_bl)))))
, ?_⟩
    -- if not _law_limits(): return False
    refine ⟨rfl, fun H1 e1 => ⟨_, rfl, ?_⟩⟩
    dsimp only [tNext, tSeq, Bool.not_true, Bool.false_eq_true, if_false]
    have hS1 := ex_l e1 hS
    obtain ⟨m, hm⟩ : ∃ m : Int, m = (if (5 : Int) < (ns.length : Int) then 5 else (ns.length : Int)) := ⟨_, rfl⟩
    obtain ⟨N, hN⟩ : ∃ N : Int, N = (if m > 2 then m else 2) := ⟨_, rfl⟩
    have hN0 : 0 ≤ N ∧ N ≤ 1000 := by
      rw [hN, hm]
      split <;> split <;> omega
    refine s_forR1 (n := N) ?_ ⟨hN0.1, by omega⟩ (fun i σ H' => ∃ v1 v2 v3 : Option V, σ = [some (.ref c), v1, v2, v3] ∧ SqL K H' c (ns.map V.int)) ?_ ?_ ?_
    · rw [hN]
      refine ea_cons (ev_cb (ea_cons ev_c (ea_cons (ev_cb (z := .int m) (ea_cons (ev_cb (z := .int (ns.length : Int)) (ea_cons (ev_var (by rfl)) ea_nil) ?_) (ea_cons ev_c ea_nil)) ?_) ea_nil)) ?_) ea_nil
      · intro H2 e2 R hR
        exact ⟨_, ns.length, rfl, .inl ⟨_, ex_l e2 hS1, by rw [List.length_map]⟩, hR _ (Ex.refl _)⟩
      · intro H2 e2 R hR
        refine ⟨_, _, rfl, ?_⟩
        rw [← hm]
        exact hR _ (Ex.refl _)
      · intro H2 e2 R hR
        exact ⟨_, _, rfl, hR _ (Ex.refl _)⟩
    · intro H2 e2
      exact ⟨_, _, _, rfl, ex_l e2 hS1⟩
    · rintro i σ' H2 hi ⟨v1, v2, v3, rfl, hS2⟩
      -- pool = _law_pool(cells, k)
      refine ⟨_, rfl, _, rfl, c, ns, (i : Int), rfl, hS2, hlen, by omega, by omega, fun H3 p hp e3 hP => ?_⟩
      have keep : ∀ H', But p H3 H' → SqL K H' c (ns.map V.int) := fun H' b => sq_but hS2 hp e3 b
      refine s_forR1 (n := 3) (ea_cons ev_c ea_nil) ⟨by decide, by decide⟩ (fun j σ H' => ∃ v3 : Option V, σ = [some (.ref c), some (.int (i : Int)), some (.ref p), v3] ∧ But p H3 H' ∧ PoolAt H' p (2 * (j : Int)) ∧ j ≤ 3) ?_ ?_ ?_
      · intro H4 e4
        exact ⟨_, rfl, But.of e4, (hP.ex e4).le (by omega), by decide⟩
      · rintro j σ'' H4 hj ⟨v, rfl, b4, hP4, _⟩
        refine ⟨_, rfl, p, 2 * (j : Int), rfl, hP4, by omega, fun H5 hP5 b5 => ⟨_, rfl, ?_⟩⟩
        dsimp only [tNext, tSeq, Bool.not_true, Bool.false_eq_true, if_false]
        exact ⟨_, rfl, b4.trans b5, hP5.le (by omega), by omega⟩
      · rintro σ'' H4 ⟨v, rfl, b4, _⟩
        exact ⟨_, _, _, rfl, keep H4 b4⟩
    · rintro σ' H2 ⟨v1, v2, v3, rfl, hS2⟩
      exact q H2
end
end L2.K01

set_option Elab.async false
set_option maxRecDepth 100000
set_option maxHeartbeats 4000000
set_option linter.all false
namespace L2.K01
open PySem PySem.Spec PyProof.Rows XK Evl XC
/-- the end, where the promise hangs on the written part -/
theorem walkGK {l : PySem.W.OpenLaw} {n k : Nat} {q : Program} {loose : List Str} {XP : (Str → Option Value) → Heap → Prop} {YP : World → Heap → Prop} {d : DefRec}
    {K : Params → PySem.W.Frag} {sp : PySem.W.Frag → Sp} {x : Str}
    (hn : l.most = some n) (hn2 : n ≤ sizeLine) (hdf : d.params.defaults = []) (hr : Room k callerA) (himp : importsNone q = true)
    (hY : ∀ (w : World) (h : Heap), YP w h → (K w.params).In h)
    (F : ∀ (w : World) (mg : Str → Option Value) (fa : Addr) (h : Heap), (K w.params).In h → h.Ns mainGlobals mg → mg d.name = some (.ref fa) →
      ∃ fd : FuncData, (∀ (s : Shared) (u : Value), BindsTo s fd ⟨[u], []⟩ [(x, u)]) ∧
        ∀ base : Heap, (K w.params).In base → base.Ns mainGlobals mg → Sys base → FnG l.prog w (K w.params) mg base k fa fd [x] (sp (K w.params)))
    (hsp : ∀ (K : PySem.W.Frag) (H : Hp) (a : Addr) (ns : List Int), ns.length ≤ n → SqL K H a (ns.map V.int) → sp K [.ref a] H (fun v _ => v = .bl true) fun _ _ _ => False) :
    PySem.W.WalkO q loose XP YP l.row.toRowW d [] (fun f vs => PySem.call f vs) :=
  walkG (K := K) (sp := fun w => sp (K w.params)) hn hn2 hdf hr himp hY F fun w H a ns h1 _ _ h3 => hsp (K w.params) H a ns h1 h3
section
variable {K : PySem.W.Frag} {h : Heap} {mg : Str → Option Value} {n : Str}
structure PkFn (K : PySem.W.Frag) (mg : Str → Option Value) (n : Str) (st : Stmt) (f : Addr) (fd : FuncData) : Prop where
  g : mg n = some (.ref f)
  k : PySem.W.keepIn K (.ref f) = true
  f : Fun K n n st f fd
theorem pkFn (n : Str) (st : Stmt) {f : Addr} {oc : Value} {od an : Option Addr} {osl : Array (Option Value)} {kV doc pm cdv ct : Value} (X : K.In h) (G : h.Ns mainGlobals mg)
    (a : PySem.W.nsIn K mainGlobals n = some (some (.ref f)))
    (l : K.lookup f = some ⟨oc, od, .func (PySem.W.fnOf n n (defArgs st) (defBody st) (defScope st) .none kV doc pm an cdv ct), osl⟩)
    (c : PySem.W.codeIn K cdv n = true) (k : PySem.W.keepIn K (.ref f) = true) : PkFn K mg n st f (PySem.W.fnOf n n (defArgs st) (defBody st) (defScope st) .none kV doc pm an cdv ct) :=
  ⟨PySem.W.mg_of X G a, k, fun_mk l c k⟩
theorem pkFree (n : Str) (X : K.In h) (G : h.Ns mainGlobals mg) (a : PySem.W.nsIn K mainGlobals n = some none) : mg n = none := PySem.W.mg_none_of X G a
theorem pkAt (n : Str) {v : Value} (X : K.In h) (G : h.Ns mainGlobals mg) (a : PySem.W.nsIn K mainGlobals n = some (some v)) : mg n = some v := PySem.W.mg_of X G a
structure PkC (K : PySem.W.Frag) (mg : Str → Option Value) (n : Str) (C : Addr) : Prop where
  g : mg n = some (.ref C)
  o : isOwn K C
theorem pkC (n : Str) {C : Addr} (X : K.In h) (G : h.Ns mainGlobals mg) (a : PySem.W.nsIn K mainGlobals n = some (some (.ref C))) (cl : PySem.W.isClsIn K C = true)
    (ty : PySem.W.typeIn K (.ref C) = some (.type "type")) : PkC K mg n C := by
  refine ⟨PySem.W.mg_of X G a, ?_⟩
  have cl' : (PySem.W.clsIn K C).isSome = true := cl
  unfold isOwn
  rw [cl', ty] <;> rfl

structure PkGv (K : PySem.W.Frag) (mg : Str → Option Value) (n : Str) (C fI W : Addr) (B newId initId : String) (bmB : List Value) : Prop extends PkC K mg n C where
  c : ClsGv K C fI B newId initId bmB
  s : Srt K C W B
theorem pkGv (n : Str) (B newId initId : String) (bmB : List Value) {C fI W : Addr} {cd : ClassData} {oc : Value} {od : Option Addr} {doc pm kV : Value} {an : Option Addr} {cdv ct : Value} {osl : Array (Option Value)} {qual : Str} {p0 p1 q00 q01 q02 q03 : Pos}
    (X : K.In h) (G : h.Ns mainGlobals mg) (eb : ExcBaseFacts B newId initId bmB) (es : StoreFacts B bmB "object.__setattr__" "object")
    (a : PySem.W.nsIn K mainGlobals n = some (some (.ref C))) (cl : PySem.W.isClsIn K C = true) (ty : PySem.W.typeIn K (.ref C) = some (.type "type"))
    (hc : PySem.W.clsIn K C = some cd) (hm : cd.mro = [.ref C, .ref W, .type B, .type "Exception", .type "BaseException", .type "object"])
    (ini : PySem.W.excInitIn K C bmB newId = true) (ov : PySem.W.excOver K C bmB = true)
    (sa : PySem.W.findIn K (.ref C) "__setattr__" = some (some (.builtin "object.__setattr__")))
    (ga : PySem.W.findIn K (.ref C) "__getattribute__" = some (some (.builtin "BaseException.__getattribute__")))
    (gg : PySem.W.findIn K (.ref C) "__getattr__" = some none) (kC : PySem.W.keepIn K (.ref C) = true)
    (exC : PySem.W.subIn K (.ref C) (.type "BaseException") = some true) (hd : PySem.W.hasDictIn K C = true)
    (iC : PySem.W.findIn K (.ref C) "__init__" = some (some (.ref fI))) (tC : PySem.W.typeIn K (.ref fI) = some (.type "function"))
    (n0 : PySem.W.findIn K (.ref C) "given" = some none)
    (l : K.lookup fI = some ⟨oc, od, .func (PySem.W.fnOf "__init__" qual (argsGv p0 p1) (bodyGv q00 q01 q02 q03) scopeGv .none kV doc pm an cdv ct), osl⟩)
    (cI : PySem.W.codeIn K cdv qual = true) (cC : PySem.W.findIn K (.ref C) "__class__" = some (some (.builtin "object.__class__")))
    (sp : PySem.W.specialIn K (.builtin "object.__class__") "__get__" = some (some (.builtin "getset_descriptor.__get__")))
    (tk : PySem.W.takesIn K (.builtin "object.__class__") = some true) (mo : PySem.W.mroIn K C (.type "object") = some true) : PkGv K mg n C fI W B newId initId bmB :=
  { pkC n X G a cl ty with
    c := { base := eb, store := es, ini := ini, over := ov, sa := sa, ga := ga, gg := gg, kC := kC, exC := exC, hd := hd, iC := iC, tC := tC, n0 := n0, fn := ⟨_, _, _, _, _, _, _, _, _, _, _, _, _, _, _, _, l, cI⟩ }
    s := ⟨⟨cl, ga, gg, exC, cC, sp, tk, mo⟩, cd, hc, hm⟩ }
structure PkIx (K : PySem.W.Frag) (mg : Str → Option Value) (n : Str) (C fI W : Addr) (B newId initId : String) (bmB : List Value) : Prop extends PkC K mg n C where
  c : ClsIx K C fI B newId initId bmB
  s : Srt K C W B
theorem pkIx (n : Str) (B newId initId : String) (bmB : List Value) {C fI W : Addr} {cd : ClassData} {oc : Value} {od : Option Addr} {doc pm kV : Value} {an : Option Addr} {cdv ct : Value} {osl : Array (Option Value)} {qual : Str} {p0 p1 q00 q01 q02 q03 : Pos}
    (X : K.In h) (G : h.Ns mainGlobals mg) (eb : ExcBaseFacts B newId initId bmB) (es : StoreFacts B bmB "object.__setattr__" "object")
    (a : PySem.W.nsIn K mainGlobals n = some (some (.ref C))) (cl : PySem.W.isClsIn K C = true) (ty : PySem.W.typeIn K (.ref C) = some (.type "type"))
    (hc : PySem.W.clsIn K C = some cd) (hm : cd.mro = [.ref C, .ref W, .type B, .type "Exception", .type "BaseException", .type "object"])
    (ini : PySem.W.excInitIn K C bmB newId = true) (ov : PySem.W.excOver K C bmB = true)
    (sa : PySem.W.findIn K (.ref C) "__setattr__" = some (some (.builtin "object.__setattr__")))
    (ga : PySem.W.findIn K (.ref C) "__getattribute__" = some (some (.builtin "BaseException.__getattribute__")))
    (gg : PySem.W.findIn K (.ref C) "__getattr__" = some none) (kC : PySem.W.keepIn K (.ref C) = true)
    (exC : PySem.W.subIn K (.ref C) (.type "BaseException") = some true) (hd : PySem.W.hasDictIn K C = true)
    (iC : PySem.W.findIn K (.ref C) "__init__" = some (some (.ref fI))) (tC : PySem.W.typeIn K (.ref fI) = some (.type "function"))
    (n0 : PySem.W.findIn K (.ref C) "index" = some none)
    (l : K.lookup fI = some ⟨oc, od, .func (PySem.W.fnOf "__init__" qual (argsIx p0 p1) (bodyIx q00 q01 q02 q03) scopeIx .none kV doc pm an cdv ct), osl⟩)
    (cI : PySem.W.codeIn K cdv qual = true) (cC : PySem.W.findIn K (.ref C) "__class__" = some (some (.builtin "object.__class__")))
    (sp : PySem.W.specialIn K (.builtin "object.__class__") "__get__" = some (some (.builtin "getset_descriptor.__get__")))
    (tk : PySem.W.takesIn K (.builtin "object.__class__") = some true) (mo : PySem.W.mroIn K C (.type "object") = some true) : PkIx K mg n C fI W B newId initId bmB :=
  { pkC n X G a cl ty with
    c := { base := eb, store := es, ini := ini, over := ov, sa := sa, ga := ga, gg := gg, kC := kC, exC := exC, hd := hd, iC := iC, tC := tC, n0 := n0, fn := ⟨_, _, _, _, _, _, _, _, _, _, _, _, _, _, _, _, l, cI⟩ }
    s := ⟨⟨cl, ga, gg, exC, cC, sp, tk, mo⟩, cd, hc, hm⟩ }
structure PkMo (K : PySem.W.Frag) (mg : Str → Option Value) (n : Str) (C fI W : Addr) (B newId initId : String) (bmB : List Value) : Prop extends PkC K mg n C where
  c : ClsMo K C fI B newId initId bmB
  s : Srt K C W B
theorem pkMo (n : Str) (B newId initId : String) (bmB : List Value) {C fI W : Addr} {cd : ClassData} {oc : Value} {od : Option Addr} {doc pm kV : Value} {an : Option Addr} {cdv ct : Value} {osl : Array (Option Value)} {qual : Str} {p0 p1 q00 q01 q02 q03 : Pos}
    (X : K.In h) (G : h.Ns mainGlobals mg) (eb : ExcBaseFacts B newId initId bmB) (es : StoreFacts B bmB "object.__setattr__" "object")
    (a : PySem.W.nsIn K mainGlobals n = some (some (.ref C))) (cl : PySem.W.isClsIn K C = true) (ty : PySem.W.typeIn K (.ref C) = some (.type "type"))
    (hc : PySem.W.clsIn K C = some cd) (hm : cd.mro = [.ref C, .ref W, .type B, .type "Exception", .type "BaseException", .type "object"])
    (ini : PySem.W.excInitIn K C bmB newId = true) (ov : PySem.W.excOver K C bmB = true)
    (sa : PySem.W.findIn K (.ref C) "__setattr__" = some (some (.builtin "object.__setattr__")))
    (ga : PySem.W.findIn K (.ref C) "__getattribute__" = some (some (.builtin "BaseException.__getattribute__")))
    (gg : PySem.W.findIn K (.ref C) "__getattr__" = some none) (kC : PySem.W.keepIn K (.ref C) = true)
    (exC : PySem.W.subIn K (.ref C) (.type "BaseException") = some true) (hd : PySem.W.hasDictIn K C = true)
    (iC : PySem.W.findIn K (.ref C) "__init__" = some (some (.ref fI))) (tC : PySem.W.typeIn K (.ref fI) = some (.type "function"))
    (n0 : PySem.W.findIn K (.ref C) "most" = some none)
    (l : K.lookup fI = some ⟨oc, od, .func (PySem.W.fnOf "__init__" qual (argsMo p0 p1) (bodyMo q00 q01 q02 q03) scopeMo .none kV doc pm an cdv ct), osl⟩)
    (cI : PySem.W.codeIn K cdv qual = true) (cC : PySem.W.findIn K (.ref C) "__class__" = some (some (.builtin "object.__class__")))
    (sp : PySem.W.specialIn K (.builtin "object.__class__") "__get__" = some (some (.builtin "getset_descriptor.__get__")))
    (tk : PySem.W.takesIn K (.builtin "object.__class__") = some true) (mo : PySem.W.mroIn K C (.type "object") = some true) : PkMo K mg n C fI W B newId initId bmB :=
  { pkC n X G a cl ty with
    c := { base := eb, store := es, ini := ini, over := ov, sa := sa, ga := ga, gg := gg, kC := kC, exC := exC, hd := hd, iC := iC, tC := tC, n0 := n0, fn := ⟨_, _, _, _, _, _, _, _, _, _, _, _, _, _, _, _, l, cI⟩ }
    s := ⟨⟨cl, ga, gg, exC, cC, sp, tk, mo⟩, cd, hc, hm⟩ }
structure PkBr (K : PySem.W.Frag) (mg : Str → Option Value) (n : Str) (C fI W : Addr) (B newId initId : String) (bmB : List Value) : Prop extends PkC K mg n C where
  c : ClsBr K C fI B newId initId bmB
  s : Srt K C W B
theorem pkBr (n : Str) (B newId initId : String) (bmB : List Value) {C fI W : Addr} {cd : ClassData} {oc : Value} {od : Option Addr} {doc pm kV : Value} {an : Option Addr} {cdv ct : Value} {osl : Array (Option Value)} {qual : Str} {p0 p1 p2 q00 q01 q02 q03 q10 q11 q12 q13 : Pos}
    (X : K.In h) (G : h.Ns mainGlobals mg) (eb : ExcBaseFacts B newId initId bmB) (es : StoreFacts B bmB "object.__setattr__" "object")
    (a : PySem.W.nsIn K mainGlobals n = some (some (.ref C))) (cl : PySem.W.isClsIn K C = true) (ty : PySem.W.typeIn K (.ref C) = some (.type "type"))
    (hc : PySem.W.clsIn K C = some cd) (hm : cd.mro = [.ref C, .ref W, .type B, .type "Exception", .type "BaseException", .type "object"])
    (ini : PySem.W.excInitIn K C bmB newId = true) (ov : PySem.W.excOver K C bmB = true)
    (sa : PySem.W.findIn K (.ref C) "__setattr__" = some (some (.builtin "object.__setattr__")))
    (ga : PySem.W.findIn K (.ref C) "__getattribute__" = some (some (.builtin "BaseException.__getattribute__")))
    (gg : PySem.W.findIn K (.ref C) "__getattr__" = some none) (kC : PySem.W.keepIn K (.ref C) = true)
    (exC : PySem.W.subIn K (.ref C) (.type "BaseException") = some true) (hd : PySem.W.hasDictIn K C = true)
    (iC : PySem.W.findIn K (.ref C) "__init__" = some (some (.ref fI))) (tC : PySem.W.typeIn K (.ref fI) = some (.type "function"))
    (n0 : PySem.W.findIn K (.ref C) "index" = some none)
    (n1 : PySem.W.findIn K (.ref C) "shown" = some none)
    (l : K.lookup fI = some ⟨oc, od, .func (PySem.W.fnOf "__init__" qual (argsBr p0 p1 p2) (bodyBr q00 q01 q02 q03 q10 q11 q12 q13) scopeBr .none kV doc pm an cdv ct), osl⟩)
    (cI : PySem.W.codeIn K cdv qual = true) (cC : PySem.W.findIn K (.ref C) "__class__" = some (some (.builtin "object.__class__")))
    (sp : PySem.W.specialIn K (.builtin "object.__class__") "__get__" = some (some (.builtin "getset_descriptor.__get__")))
    (tk : PySem.W.takesIn K (.builtin "object.__class__") = some true) (mo : PySem.W.mroIn K C (.type "object") = some true) : PkBr K mg n C fI W B newId initId bmB :=
  { pkC n X G a cl ty with
    c := { base := eb, store := es, ini := ini, over := ov, sa := sa, ga := ga, gg := gg, kC := kC, exC := exC, hd := hd, iC := iC, tC := tC, n0 := n0, n1 := n1, fn := ⟨_, _, _, _, _, _, _, _, _, _, _, _, _, _, _, _, _, _, _, _, _, l, cI⟩ }
    s := ⟨⟨cl, ga, gg, exC, cC, sp, tk, mo⟩, cd, hc, hm⟩ }
structure PkNo (K : PySem.W.Frag) (mg : Str → Option Value) (n : Str) (C fI W : Addr) (B newId initId : String) (bmB : List Value) : Prop extends PkC K mg n C where
  c : ClsNo K C fI B newId initId bmB
  s : Srt K C W B
theorem pkNo (n : Str) (B newId initId : String) (bmB : List Value) {C fI W : Addr} {cd : ClassData} {oc : Value} {od : Option Addr} {doc pm kV : Value} {an : Option Addr} {cdv ct : Value} {osl : Array (Option Value)} {qual : Str} {p0 q0 : Pos}
    (X : K.In h) (G : h.Ns mainGlobals mg) (eb : ExcBaseFacts B newId initId bmB) (es : StoreFacts B bmB "object.__setattr__" "object")
    (a : PySem.W.nsIn K mainGlobals n = some (some (.ref C))) (cl : PySem.W.isClsIn K C = true) (ty : PySem.W.typeIn K (.ref C) = some (.type "type"))
    (hc : PySem.W.clsIn K C = some cd) (hm : cd.mro = [.ref C, .ref W, .type B, .type "Exception", .type "BaseException", .type "object"])
    (ini : PySem.W.excInitIn K C bmB newId = true) (ov : PySem.W.excOver K C bmB = true)
    (sa : PySem.W.findIn K (.ref C) "__setattr__" = some (some (.builtin "object.__setattr__")))
    (ga : PySem.W.findIn K (.ref C) "__getattribute__" = some (some (.builtin "BaseException.__getattribute__")))
    (gg : PySem.W.findIn K (.ref C) "__getattr__" = some none) (kC : PySem.W.keepIn K (.ref C) = true)
    (exC : PySem.W.subIn K (.ref C) (.type "BaseException") = some true) (hd : PySem.W.hasDictIn K C = true)
    (iC : PySem.W.findIn K (.ref C) "__init__" = some (some (.ref fI))) (tC : PySem.W.typeIn K (.ref fI) = some (.type "function"))
    (l : K.lookup fI = some ⟨oc, od, .func (PySem.W.fnOf "__init__" qual (argsNo p0) (bodyNo q0) scopeNo .none kV doc pm an cdv ct), osl⟩)
    (cI : PySem.W.codeIn K cdv qual = true) (cC : PySem.W.findIn K (.ref C) "__class__" = some (some (.builtin "object.__class__")))
    (sp : PySem.W.specialIn K (.builtin "object.__class__") "__get__" = some (some (.builtin "getset_descriptor.__get__")))
    (tk : PySem.W.takesIn K (.builtin "object.__class__") = some true) (mo : PySem.W.mroIn K C (.type "object") = some true) : PkNo K mg n C fI W B newId initId bmB :=
  { pkC n X G a cl ty with
    c := { base := eb, store := es, ini := ini, over := ov, sa := sa, ga := ga, gg := gg, kC := kC, exC := exC, hd := hd, iC := iC, tC := tC, fn := ⟨_, _, _, _, _, _, _, _, _, _, _, _, l, cI⟩ }
    s := ⟨⟨cl, ga, gg, exC, cC, sp, tk, mo⟩, cd, hc, hm⟩ }
end
theorem sortOf {K : PySem.W.Frag} {a : Adr} (s0 : Srt K a.InvalidNumber a.WrongValue "ValueError") (s1 : Srt K a.InvalidText a.WrongValue "ValueError") (s2 : Srt K a.InvalidName a.WrongValue "ValueError") (s3 : Srt K a.InvalidWish a.WrongValue "ValueError") (s4 : Srt K a.InvalidIndex a.WrongValue "ValueError") (s5 : Srt K a.InvalidPicture a.WrongValue "ValueError") (s6 : Srt K a.InvalidEvent a.WrongValue "ValueError") (s7 : Srt K a.InvalidHearing a.WrongValue "ValueError") (s8 : Srt K a.NotAHouse a.WrongValue "ValueError") (s9 : Srt K a.InvalidStands a.WrongValue "ValueError") (s10 : Srt K a.InvalidKeys a.WrongValue "ValueError") (s11 : Srt K a.InvalidRows a.WrongValue "ValueError") (s12 : Srt K a.WrongLine a.WrongValue "ValueError") (s13 : Srt K a.InvalidWeaving a.WrongValue "ValueError") (s14 : Srt K a.UnknownName a.WrongState "LookupError") (s15 : Srt K a.InUse a.WrongState "LookupError") (s16 : Srt K a.NothingToUndo a.WrongState "LookupError") (s17 : Srt K a.TooMany a.NoAnswer "ArithmeticError") (s18 : Srt K a.Broken a.NoAnswer "ArithmeticError") : ∀ i C W B, sorts a i = some (C, W, B) → Srt K C W B := by
  intro i C W B h
  match i, h with
  | 0, h => cases h; exact s0
  | 1, h => cases h; exact s1
  | 2, h => cases h; exact s2
  | 3, h => cases h; exact s3
  | 4, h => cases h; exact s4
  | 5, h => cases h; exact s5
  | 6, h => cases h; exact s6
  | 7, h => cases h; exact s7
  | 8, h => cases h; exact s8
  | 9, h => cases h; exact s9
  | 10, h => cases h; exact s10
  | 11, h => cases h; exact s11
  | 12, h => cases h; exact s12
  | 13, h => cases h; exact s13
  | 14, h => cases h; exact s14
  | 15, h => cases h; exact s15
  | 16, h => cases h; exact s16
  | 17, h => cases h; exact s17
  | 18, h => cases h; exact s18
  | n + 19, h => cases h
theorem ownsOf {K : PySem.W.Frag} {a : Adr} (o0 : isOwn K a.InvalidNumber) (o1 : isOwn K a.InvalidText) (o2 : isOwn K a.InvalidName) (o3 : isOwn K a.InvalidWish) (o4 : isOwn K a.InvalidIndex) (o5 : isOwn K a.InvalidPicture) (o6 : isOwn K a.InvalidEvent) (o7 : isOwn K a.InvalidHearing) (o8 : isOwn K a.NotAHouse) (o9 : isOwn K a.InvalidStands) (o10 : isOwn K a.InvalidKeys) (o11 : isOwn K a.InvalidRows) (o12 : isOwn K a.WrongLine) (o13 : isOwn K a.InvalidWeaving) (o14 : isOwn K a.UnknownName) (o15 : isOwn K a.InUse) (o16 : isOwn K a.NothingToUndo) (o17 : isOwn K a.TooMany) (o18 : isOwn K a.Broken) (o19 : isOwn K a.WrongValue) (o20 : isOwn K a.WrongState) (o21 : isOwn K a.NoAnswer) : ∀ C, C ∈ owns a → isOwn K C := by
  intro C h
  unfold owns at h
  rcases List.mem_cons.mp h with rfl | h
  · exact o0
  rcases List.mem_cons.mp h with rfl | h
  · exact o1
  rcases List.mem_cons.mp h with rfl | h
  · exact o2
  rcases List.mem_cons.mp h with rfl | h
  · exact o3
  rcases List.mem_cons.mp h with rfl | h
  · exact o4
  rcases List.mem_cons.mp h with rfl | h
  · exact o5
  rcases List.mem_cons.mp h with rfl | h
  · exact o6
  rcases List.mem_cons.mp h with rfl | h
  · exact o7
  rcases List.mem_cons.mp h with rfl | h
  · exact o8
  rcases List.mem_cons.mp h with rfl | h
  · exact o9
  rcases List.mem_cons.mp h with rfl | h
  · exact o10
  rcases List.mem_cons.mp h with rfl | h
  · exact o11
  rcases List.mem_cons.mp h with rfl | h
  · exact o12
  rcases List.mem_cons.mp h with rfl | h
  · exact o13
  rcases List.mem_cons.mp h with rfl | h
  · exact o14
  rcases List.mem_cons.mp h with rfl | h
  · exact o15
  rcases List.mem_cons.mp h with rfl | h
  · exact o16
  rcases List.mem_cons.mp h with rfl | h
  · exact o17
  rcases List.mem_cons.mp h with rfl | h
  · exact o18
  rcases List.mem_cons.mp h with rfl | h
  · exact o19
  rcases List.mem_cons.mp h with rfl | h
  · exact o20
  rcases List.mem_cons.mp h with rfl | h
  · exact o21
  cases h
end L2.K01

set_option Elab.async false
set_option maxRecDepth 100000
open PySem PySem.W PyProof.Rows
set_option maxRecDepth 100000 in
set_option maxHeartbeats 0 in
theorem PySem.Challenge.cw_holdhouse_k01_limits_and_errors_holds : PySem.Challenge.rw_holdhouse_k01_limits_and_errors.Holds := by
  w_on; o_law; k_head; (case hw => w_witness2)
  k_fill
  refine L2.K01.walkGK (l := PySem.Challenge.rw_holdhouse_k01_limits_and_errors) (n := 63) (k := 6) (x := "_law_cells") (sp := L2.K01.spLaw) rfl (by decide) rfl ⟨rfl, by decide, by decide⟩ (by decide +kernel) (fun w h Y => PySem.W.kIn_of Y) ?F ?S
  case S =>
    intro K H a ns hl hS
    exact ⟨a, ns, rfl, hS, hl, fun _ => rfl⟩
  case F =>
    intro w mg fa h KX G hmg
    have f_LawPool := L2.K01.pkFn "_law_pool" L2.K01.sLawPool KX G (by k_is) (by k_is) (by k_is) (by k_is)
    have f_LawDraw := L2.K01.pkFn "_law_draw" L2.K01.sLawDraw KX G (by k_is) (by k_is) (by k_is) (by k_is)
    have f_LawPick := L2.K01.pkFn "_law_pick" L2.K01.sLawPick KX G (by k_is) (by k_is) (by k_is) (by k_is)
    have f_LawError := L2.K01.pkFn "_law_error" L2.K01.sLawError KX G (by k_is) (by k_is) (by k_is) (by k_is)
    have f_LawField := L2.K01.pkFn "_law_field" L2.K01.sLawField KX G (by k_is) (by k_is) (by k_is) (by k_is)
    have f_LawLimits := L2.K01.pkFn "_law_limits" L2.K01.sLawLimits KX G (by k_is) (by k_is) (by k_is) (by k_is)
    have f_LawOdd := L2.K01.pkFn "_law_odd" L2.K01.sLawOdd KX G (by k_is) (by k_is) (by k_is) (by k_is)
    have f_LawRight := L2.K01.pkFn "_law_right" L2.K01.sLawRight KX G (by k_is) (by k_is) (by k_is) (by k_is)
    have f_Law := L2.K01.pkFn "law" L2.K01.sLaw KX G (by k_is) (by k_is) (by k_is) (by k_is)
    have b_len := L2.K01.pkFree "len" KX G (by k_is)
    have b_int := L2.K01.pkFree "int" KX G (by k_is)
    have b_abs := L2.K01.pkFree "abs" KX G (by k_is)
    have b_divmod := L2.K01.pkFree "divmod" KX G (by k_is)
    have b_min := L2.K01.pkFree "min" KX G (by k_is)
    have b_max := L2.K01.pkFree "max" KX G (by k_is)
    have b_any := L2.K01.pkFree "any" KX G (by k_is)
    have b_repr := L2.K01.pkFree "repr" KX G (by k_is)
    have b_isinstance := L2.K01.pkFree "isinstance" KX G (by k_is)
    have b_list := L2.K01.pkFree "list" KX G (by k_is)
    have b_range := L2.K01.pkFree "range" KX G (by k_is)
    have b_ValueError := L2.K01.pkFree "ValueError" KX G (by k_is)
    have b_LookupError := L2.K01.pkFree "LookupError" KX G (by k_is)
    have b_ArithmeticError := L2.K01.pkFree "ArithmeticError" KX G (by k_is)
    have b_KeyError := L2.K01.pkFree "KeyError" KX G (by k_is)
    have b_IndexError := L2.K01.pkFree "IndexError" KX G (by k_is)
    have b_ZeroDivisionError := L2.K01.pkFree "ZeroDivisionError" KX G (by k_is)
    have m_MostLines := L2.K01.pkAt "MOST_LINES" KX G (by k_is)
    have m_MostStands := L2.K01.pkAt "MOST_STANDS" KX G (by k_is)
    have m_MostKeys := L2.K01.pkAt "MOST_KEYS" KX G (by k_is)
    have m_MostRows := L2.K01.pkAt "MOST_ROWS" KX G (by k_is)
    have m_MostConditions := L2.K01.pkAt "MOST_CONDITIONS" KX G (by k_is)
    have m_MostDeeds := L2.K01.pkAt "MOST_DEEDS" KX G (by k_is)
    have m_MostPhones := L2.K01.pkAt "MOST_PHONES" KX G (by k_is)
    have m_MostShapes := L2.K01.pkAt "MOST_SHAPES" KX G (by k_is)
    have c_InvalidNumber := L2.K01.pkGv "InvalidNumber" "ValueError" "ValueError.__new__" "ValueError.__init__" [.type "ValueError", .type "Exception", .type "BaseException", .type "object"] KX G PySem.F.excBase_ValueError PySem.F.store_ValueError (by k_is) (by k_is) (by k_is) (by k_is) rfl (by kx_is) (by kx_is) (by k_is) (by k_is) (by k_is) (by k_is) (by k_is) (by k_is) (by k_is) (by k_is) (by k_is) (by k_is) (by k_is) (by k_is) (by k_is) (by k_is) (by k_is)
    have c_InvalidText := L2.K01.pkGv "InvalidText" "ValueError" "ValueError.__new__" "ValueError.__init__" [.type "ValueError", .type "Exception", .type "BaseException", .type "object"] KX G PySem.F.excBase_ValueError PySem.F.store_ValueError (by k_is) (by k_is) (by k_is) (by k_is) rfl (by kx_is) (by kx_is) (by k_is) (by k_is) (by k_is) (by k_is) (by k_is) (by k_is) (by k_is) (by k_is) (by k_is) (by k_is) (by k_is) (by k_is) (by k_is) (by k_is) (by k_is)
    have c_InvalidName := L2.K01.pkGv "InvalidName" "ValueError" "ValueError.__new__" "ValueError.__init__" [.type "ValueError", .type "Exception", .type "BaseException", .type "object"] KX G PySem.F.excBase_ValueError PySem.F.store_ValueError (by k_is) (by k_is) (by k_is) (by k_is) rfl (by kx_is) (by kx_is) (by k_is) (by k_is) (by k_is) (by k_is) (by k_is) (by k_is) (by k_is) (by k_is) (by k_is) (by k_is) (by k_is) (by k_is) (by k_is) (by k_is) (by k_is)
    have c_InvalidWish := L2.K01.pkGv "InvalidWish" "ValueError" "ValueError.__new__" "ValueError.__init__" [.type "ValueError", .type "Exception", .type "BaseException", .type "object"] KX G PySem.F.excBase_ValueError PySem.F.store_ValueError (by k_is) (by k_is) (by k_is) (by k_is) rfl (by kx_is) (by kx_is) (by k_is) (by k_is) (by k_is) (by k_is) (by k_is) (by k_is) (by k_is) (by k_is) (by k_is) (by k_is) (by k_is) (by k_is) (by k_is) (by k_is) (by k_is)
    have c_InvalidIndex := L2.K01.pkGv "InvalidIndex" "ValueError" "ValueError.__new__" "ValueError.__init__" [.type "ValueError", .type "Exception", .type "BaseException", .type "object"] KX G PySem.F.excBase_ValueError PySem.F.store_ValueError (by k_is) (by k_is) (by k_is) (by k_is) rfl (by kx_is) (by kx_is) (by k_is) (by k_is) (by k_is) (by k_is) (by k_is) (by k_is) (by k_is) (by k_is) (by k_is) (by k_is) (by k_is) (by k_is) (by k_is) (by k_is) (by k_is)
    have c_InvalidPicture := L2.K01.pkGv "InvalidPicture" "ValueError" "ValueError.__new__" "ValueError.__init__" [.type "ValueError", .type "Exception", .type "BaseException", .type "object"] KX G PySem.F.excBase_ValueError PySem.F.store_ValueError (by k_is) (by k_is) (by k_is) (by k_is) rfl (by kx_is) (by kx_is) (by k_is) (by k_is) (by k_is) (by k_is) (by k_is) (by k_is) (by k_is) (by k_is) (by k_is) (by k_is) (by k_is) (by k_is) (by k_is) (by k_is) (by k_is)
    have c_InvalidEvent := L2.K01.pkGv "InvalidEvent" "ValueError" "ValueError.__new__" "ValueError.__init__" [.type "ValueError", .type "Exception", .type "BaseException", .type "object"] KX G PySem.F.excBase_ValueError PySem.F.store_ValueError (by k_is) (by k_is) (by k_is) (by k_is) rfl (by kx_is) (by kx_is) (by k_is) (by k_is) (by k_is) (by k_is) (by k_is) (by k_is) (by k_is) (by k_is) (by k_is) (by k_is) (by k_is) (by k_is) (by k_is) (by k_is) (by k_is)
    have c_InvalidHearing := L2.K01.pkGv "InvalidHearing" "ValueError" "ValueError.__new__" "ValueError.__init__" [.type "ValueError", .type "Exception", .type "BaseException", .type "object"] KX G PySem.F.excBase_ValueError PySem.F.store_ValueError (by k_is) (by k_is) (by k_is) (by k_is) rfl (by kx_is) (by kx_is) (by k_is) (by k_is) (by k_is) (by k_is) (by k_is) (by k_is) (by k_is) (by k_is) (by k_is) (by k_is) (by k_is) (by k_is) (by k_is) (by k_is) (by k_is)
    have c_NotAHouse := L2.K01.pkGv "NotAHouse" "ValueError" "ValueError.__new__" "ValueError.__init__" [.type "ValueError", .type "Exception", .type "BaseException", .type "object"] KX G PySem.F.excBase_ValueError PySem.F.store_ValueError (by k_is) (by k_is) (by k_is) (by k_is) rfl (by kx_is) (by kx_is) (by k_is) (by k_is) (by k_is) (by k_is) (by k_is) (by k_is) (by k_is) (by k_is) (by k_is) (by k_is) (by k_is) (by k_is) (by k_is) (by k_is) (by k_is)
    have c_InvalidStands := L2.K01.pkIx "InvalidStands" "ValueError" "ValueError.__new__" "ValueError.__init__" [.type "ValueError", .type "Exception", .type "BaseException", .type "object"] KX G PySem.F.excBase_ValueError PySem.F.store_ValueError (by k_is) (by k_is) (by k_is) (by k_is) rfl (by kx_is) (by kx_is) (by k_is) (by k_is) (by k_is) (by k_is) (by k_is) (by k_is) (by k_is) (by k_is) (by k_is) (by k_is) (by k_is) (by k_is) (by k_is) (by k_is) (by k_is)
    have c_InvalidKeys := L2.K01.pkIx "InvalidKeys" "ValueError" "ValueError.__new__" "ValueError.__init__" [.type "ValueError", .type "Exception", .type "BaseException", .type "object"] KX G PySem.F.excBase_ValueError PySem.F.store_ValueError (by k_is) (by k_is) (by k_is) (by k_is) rfl (by kx_is) (by kx_is) (by k_is) (by k_is) (by k_is) (by k_is) (by k_is) (by k_is) (by k_is) (by k_is) (by k_is) (by k_is) (by k_is) (by k_is) (by k_is) (by k_is) (by k_is)
    have c_InvalidRows := L2.K01.pkIx "InvalidRows" "ValueError" "ValueError.__new__" "ValueError.__init__" [.type "ValueError", .type "Exception", .type "BaseException", .type "object"] KX G PySem.F.excBase_ValueError PySem.F.store_ValueError (by k_is) (by k_is) (by k_is) (by k_is) rfl (by kx_is) (by kx_is) (by k_is) (by k_is) (by k_is) (by k_is) (by k_is) (by k_is) (by k_is) (by k_is) (by k_is) (by k_is) (by k_is) (by k_is) (by k_is) (by k_is) (by k_is)
    have c_WrongLine := L2.K01.pkIx "WrongLine" "ValueError" "ValueError.__new__" "ValueError.__init__" [.type "ValueError", .type "Exception", .type "BaseException", .type "object"] KX G PySem.F.excBase_ValueError PySem.F.store_ValueError (by k_is) (by k_is) (by k_is) (by k_is) rfl (by kx_is) (by kx_is) (by k_is) (by k_is) (by k_is) (by k_is) (by k_is) (by k_is) (by k_is) (by k_is) (by k_is) (by k_is) (by k_is) (by k_is) (by k_is) (by k_is) (by k_is)
    have c_InvalidWeaving := L2.K01.pkIx "InvalidWeaving" "ValueError" "ValueError.__new__" "ValueError.__init__" [.type "ValueError", .type "Exception", .type "BaseException", .type "object"] KX G PySem.F.excBase_ValueError PySem.F.store_ValueError (by k_is) (by k_is) (by k_is) (by k_is) rfl (by kx_is) (by kx_is) (by k_is) (by k_is) (by k_is) (by k_is) (by k_is) (by k_is) (by k_is) (by k_is) (by k_is) (by k_is) (by k_is) (by k_is) (by k_is) (by k_is) (by k_is)
    have c_UnknownName := L2.K01.pkGv "UnknownName" "LookupError" "LookupError.__new__" "LookupError.__init__" [.type "LookupError", .type "Exception", .type "BaseException", .type "object"] KX G PySem.F.excBase_LookupError PySem.F.store_LookupError (by k_is) (by k_is) (by k_is) (by k_is) rfl (by kx_is) (by kx_is) (by k_is) (by k_is) (by k_is) (by k_is) (by k_is) (by k_is) (by k_is) (by k_is) (by k_is) (by k_is) (by k_is) (by k_is) (by k_is) (by k_is) (by k_is)
    have c_InUse := L2.K01.pkIx "InUse" "LookupError" "LookupError.__new__" "LookupError.__init__" [.type "LookupError", .type "Exception", .type "BaseException", .type "object"] KX G PySem.F.excBase_LookupError PySem.F.store_LookupError (by k_is) (by k_is) (by k_is) (by k_is) rfl (by kx_is) (by kx_is) (by k_is) (by k_is) (by k_is) (by k_is) (by k_is) (by k_is) (by k_is) (by k_is) (by k_is) (by k_is) (by k_is) (by k_is) (by k_is) (by k_is) (by k_is)
    have c_NothingToUndo := L2.K01.pkNo "NothingToUndo" "LookupError" "LookupError.__new__" "LookupError.__init__" [.type "LookupError", .type "Exception", .type "BaseException", .type "object"] KX G PySem.F.excBase_LookupError PySem.F.store_LookupError (by k_is) (by k_is) (by k_is) (by k_is) rfl (by kx_is) (by kx_is) (by k_is) (by k_is) (by k_is) (by k_is) (by k_is) (by k_is) (by k_is) (by k_is) (by k_is) (by k_is) (by k_is) (by k_is) (by k_is) (by k_is)
    have c_TooMany := L2.K01.pkMo "TooMany" "ArithmeticError" "ArithmeticError.__new__" "ArithmeticError.__init__" [.type "ArithmeticError", .type "Exception", .type "BaseException", .type "object"] KX G PySem.F.excBase_ArithmeticError PySem.F.store_ArithmeticError (by k_is) (by k_is) (by k_is) (by k_is) rfl (by kx_is) (by kx_is) (by k_is) (by k_is) (by k_is) (by k_is) (by k_is) (by k_is) (by k_is) (by k_is) (by k_is) (by k_is) (by k_is) (by k_is) (by k_is) (by k_is) (by k_is)
    have c_Broken := L2.K01.pkBr "Broken" "ArithmeticError" "ArithmeticError.__new__" "ArithmeticError.__init__" [.type "ArithmeticError", .type "Exception", .type "BaseException", .type "object"] KX G PySem.F.excBase_ArithmeticError PySem.F.store_ArithmeticError (by k_is) (by k_is) (by k_is) (by k_is) rfl (by kx_is) (by kx_is) (by k_is) (by k_is) (by k_is) (by k_is) (by k_is) (by k_is) (by k_is) (by k_is) (by k_is) (by k_is) (by k_is) (by k_is) (by k_is) (by k_is) (by k_is) (by k_is)
    have c_WrongValue := L2.K01.pkC "WrongValue" KX G (by k_is) (by k_is) (by k_is)
    have c_WrongState := L2.K01.pkC "WrongState" KX G (by k_is) (by k_is) (by k_is)
    have c_NoAnswer := L2.K01.pkC "NoAnswer" KX G (by k_is) (by k_is) (by k_is)
    have T : L2.K01.Txt _ mg { LawPool := _, fdLawPool := _, LawDraw := _, fdLawDraw := _, LawPick := _, fdLawPick := _, LawError := _, fdLawError := _, LawField := _, fdLawField := _, LawLimits := _, fdLawLimits := _, LawOdd := _, fdLawOdd := _, LawRight := _, fdLawRight := _, Law := _, fdLaw := _, InvalidNumber := _, InvalidText := _, InvalidName := _, InvalidWish := _, InvalidIndex := _, InvalidPicture := _, InvalidEvent := _, InvalidHearing := _, NotAHouse := _, InvalidStands := _, InvalidKeys := _, InvalidRows := _, WrongLine := _, InvalidWeaving := _, UnknownName := _, InUse := _, NothingToUndo := _, TooMany := _, Broken := _, WrongValue := _, WrongState := _, NoAnswer := _, iInvalidNumber := _, iInvalidText := _, iInvalidName := _, iInvalidWish := _, iInvalidIndex := _, iInvalidPicture := _, iInvalidEvent := _, iInvalidHearing := _, iNotAHouse := _, iInvalidStands := _, iInvalidKeys := _, iInvalidRows := _, iWrongLine := _, iInvalidWeaving := _, iUnknownName := _, iInUse := _, iNothingToUndo := _, iTooMany := _, iBroken := _, tMostLines := _, tMostStands := _, tMostKeys := _, tMostRows := _, tMostConditions := _, tMostDeeds := _, tMostPhones := _, tMostShapes := _ } := { gLawPool := f_LawPool.g, kLawPool := f_LawPool.k, fLawPool := f_LawPool.f, bLawPool := f_LawPool.f.binds (ps := ["_law_cells", "_law_turn"]) (by intro _ _ _ _ _ _ us hl; exact (match us, hl with | [_, _], _ => rfl)), gLawDraw := f_LawDraw.g, kLawDraw := f_LawDraw.k, fLawDraw := f_LawDraw.f, bLawDraw := f_LawDraw.f.binds (ps := ["_law_pool_here", "_law_many"]) (by intro _ _ _ _ _ _ us hl; exact (match us, hl with | [_, _], _ => rfl)), gLawPick := f_LawPick.g, kLawPick := f_LawPick.k, fLawPick := f_LawPick.f, bLawPick := f_LawPick.f.binds (ps := ["_law_pool_here", "_law_things"]) (by intro _ _ _ _ _ _ us hl; exact (match us, hl with | [_, _], _ => rfl)), gLawError := f_LawError.g, kLawError := f_LawError.k, fLawError := f_LawError.f, bLawError := f_LawError.f.binds (ps := ["_law_e"]) (by intro _ _ _ _ _ _ us hl; exact (match us, hl with | [_], _ => rfl)), gLawField := f_LawField.g, kLawField := f_LawField.k, fLawField := f_LawField.f, bLawField := f_LawField.f.binds (ps := ["_law_e", "_law_at"]) (by intro _ _ _ _ _ _ us hl; exact (match us, hl with | [_, _], _ => rfl)), gLawLimits := f_LawLimits.g, kLawLimits := f_LawLimits.k, fLawLimits := f_LawLimits.f, bLawLimits := f_LawLimits.f.binds (ps := []) (by intro _ _ _ _ _ _ us hl; exact (match us, hl with | [], _ => rfl)), gLawOdd := f_LawOdd.g, kLawOdd := f_LawOdd.k, fLawOdd := f_LawOdd.f, bLawOdd := f_LawOdd.f.binds (ps := ["_law_pool_here"]) (by intro _ _ _ _ _ _ us hl; exact (match us, hl with | [_], _ => rfl)), gLawRight := f_LawRight.g, kLawRight := f_LawRight.k, fLawRight := f_LawRight.f, bLawRight := f_LawRight.f.binds (ps := ["_law_pool_here"]) (by intro _ _ _ _ _ _ us hl; exact (match us, hl with | [_], _ => rfl)), gLaw := f_Law.g, kLaw := f_Law.k, fLaw := f_Law.f, bLaw := f_Law.f.binds (ps := ["_law_cells"]) (by intro _ _ _ _ _ _ us hl; exact (match us, hl with | [_], _ => rfl)), blen := b_len, bint := b_int, babs := b_abs, bdivmod := b_divmod, bmin := b_min, bmax := b_max, bany := b_any, brepr := b_repr, bisinstance := b_isinstance, blist := b_list, brange := b_range, bValueError := b_ValueError, bLookupError := b_LookupError, bArithmeticError := b_ArithmeticError, bKeyError := b_KeyError, bIndexError := b_IndexError, bZeroDivisionError := b_ZeroDivisionError, mgMostLines := m_MostLines, mgMostStands := m_MostStands, mgMostKeys := m_MostKeys, mgMostRows := m_MostRows, mgMostConditions := m_MostConditions, mgMostDeeds := m_MostDeeds, mgMostPhones := m_MostPhones, mgMostShapes := m_MostShapes, gInvalidNumber := c_InvalidNumber.g, gInvalidText := c_InvalidText.g, gInvalidName := c_InvalidName.g, gInvalidWish := c_InvalidWish.g, gInvalidIndex := c_InvalidIndex.g, gInvalidPicture := c_InvalidPicture.g, gInvalidEvent := c_InvalidEvent.g, gInvalidHearing := c_InvalidHearing.g, gNotAHouse := c_NotAHouse.g, gInvalidStands := c_InvalidStands.g, gInvalidKeys := c_InvalidKeys.g, gInvalidRows := c_InvalidRows.g, gWrongLine := c_WrongLine.g, gInvalidWeaving := c_InvalidWeaving.g, gUnknownName := c_UnknownName.g, gInUse := c_InUse.g, gNothingToUndo := c_NothingToUndo.g, gTooMany := c_TooMany.g, gBroken := c_Broken.g, gWrongValue := c_WrongValue.g, gWrongState := c_WrongState.g, gNoAnswer := c_NoAnswer.g, cInvalidNumber := c_InvalidNumber.c, cInvalidText := c_InvalidText.c, cInvalidName := c_InvalidName.c, cInvalidWish := c_InvalidWish.c, cInvalidIndex := c_InvalidIndex.c, cInvalidPicture := c_InvalidPicture.c, cInvalidEvent := c_InvalidEvent.c, cInvalidHearing := c_InvalidHearing.c, cNotAHouse := c_NotAHouse.c, cInvalidStands := c_InvalidStands.c, cInvalidKeys := c_InvalidKeys.c, cInvalidRows := c_InvalidRows.c, cWrongLine := c_WrongLine.c, cInvalidWeaving := c_InvalidWeaving.c, cUnknownName := c_UnknownName.c, cInUse := c_InUse.c, cNothingToUndo := c_NothingToUndo.c, cTooMany := c_TooMany.c, cBroken := c_Broken.c, sort := L2.K01.sortOf c_InvalidNumber.s c_InvalidText.s c_InvalidName.s c_InvalidWish.s c_InvalidIndex.s c_InvalidPicture.s c_InvalidEvent.s c_InvalidHearing.s c_NotAHouse.s c_InvalidStands.s c_InvalidKeys.s c_InvalidRows.s c_WrongLine.s c_InvalidWeaving.s c_UnknownName.s c_InUse.s c_NothingToUndo.s c_TooMany.s c_Broken.s, cls := L2.K01.ownsOf c_InvalidNumber.o c_InvalidText.o c_InvalidName.o c_InvalidWish.o c_InvalidIndex.o c_InvalidPicture.o c_InvalidEvent.o c_InvalidHearing.o c_NotAHouse.o c_InvalidStands.o c_InvalidKeys.o c_InvalidRows.o c_WrongLine.o c_InvalidWeaving.o c_UnknownName.o c_InUse.o c_NothingToUndo.o c_TooMany.o c_Broken.o c_WrongValue.o c_WrongState.o c_NoAnswer.o, nd := by decide }
    have e := hmg.symm.trans f_Law.g
    cases e
    exact ⟨_, fun s u => PySem.BindsTo.of_eq rfl, fun base _ _ hs => L2.K01.ok_law T hs⟩

