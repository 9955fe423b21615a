import PyProof.Rows.All
import Wide.All
import OpenK.AllK
import Wide.FinOn
import HandS.ForMost
import HandS.ForExc
import HandS.Property
import HandS.Defaults
import HandS.Lambda
import KE.KExcInit
import KE.KExcIs
import PySem.Challenge.RW_holdhouse_k57_books_keep_houses
import HandS.Head0
import HandS.Head1
import HandS.Head2
import HandS.HeadHook1
import HandS.HeadHook2
import HandS.HeadHook3
import HandS.HeadHook4
import HandS.HeadNt
import HandS.ExcInit
import HandS.IsInst
import HandS.ExcValue
import HandS.EndBits
import HandS.Evl
import HandS.Conv
import KE.GoesEnum
import HandS.Text
import HandS.Iter
import HandS.Comp
import HandS.Walk
import HandS.ExcCtx
import HandS.HotCalls
import HandS.Words
import HandS.FStr
import HandS.Star
import HandS.RaiseMore
import PyProof.InstEq
import KE.KCallOwn
import OpenK.KOps
import PyProof.Conv_bool
import HandS.More
import HandS.Dict
import HandS.DictComp
import PyProof.Rows.StrMeet
import HandS.MakeKwOnly
import HandS.Small
set_option Elab.async false
set_option maxRecDepth 100000
set_option maxHeartbeats 4000000
set_option linter.all false
namespace L2.HM
open PySem PySem.Spec PyProof.Rows
abbrev Fg := PySem.W.Frag
def fdAt (K : Fg) (a : Addr) : Option FuncData := match K.lookup a with
  | some o => (match o.data with
    | .func fd => some fd
    | _ => none)
  | none => none
/-- what is fixed of a function object -/
abbrev FV : Type := (Str × Str) × (Arguments × FuncBody × Scope) × (Addr × List (Str × Addr) × Addr)
def fv (f : FuncData) : FV := ((f.name, f.qualname), (f.params, f.body, f.scope), (f.globals, f.closure, f.builtins))
/-- a def of the text: where it stands, its names, its row, its defaults -/
structure Df where
  ad : Fg → Addr
  nm : Str
  ql : Str
  st : Stmt
  df : Fg → List V := fun _ => []
/-- a code object's name -/
def cdName (K : Fg) (cd : Value) : Option Str := match cd with
  | .ref c => (match K.lookup c with
    | some ⟨_, _, .fields vs, _⟩ => (match vs.toList with
      | _ :: .str n _ :: _ => some n
      | _ => none)
    | _ => none)
  | _ => none
abbrev FN : Type := FV × Option Str
def Df.v (d : Df) : Option FN := some (((d.nm, d.ql), (defArgs d.st, .stmts (defBody d.st), defScope d.st), (mainGlobals, [], builtinsNs)), some d.ql)
def Df.see (K : Fg) (d : Df) : Option FN := (fdAt K (d.ad K)).map fun f => (fv f, cdName K f.code)
def Df.b (K : Fg) (d : Df) : Bool := PySem.W.keepIn K (.ref (d.ad K)) && (match fdAt K (d.ad K) with
  | some f => He.dflB K f.defaults (d.df K)
  | none => false)
def cdOf (K : Fg) (f : Addr) : Addr := match fdAt K f with
  | some fd => (match fd.code with
    | .ref c => c
    | _ => 0)
  | none => 0
def tbOf (K : Fg) (f : Addr) : Addr := He.tabOf K (cdOf K f)
/-- what is wanted of a top: the defs, a truth, the defs whose code tables are empty -/
structure Wn where
  fs : List Df
  ex : Fg → Bool
  tf : List (Fg → Addr)
  tb : List ((Fg → Addr) × List (Str × Int)) := []
  ks : List Str
  ss : List (Nat × Str) := []
  at_ : List Nat := []
def tabB (g : Addr → Option Obj) (K : Fg) (f : Addr) : Bool := PySem.W.codeHdIn K (cdOf K f) (tbOf K f) && (match g (tbOf K f) with
  | some o => He.emptyTab o
  | none => false)
/-- the top's names in their order: entries, keys, values -/
def gd (K : Fg) : List DictEntry := match K.lookup mainGlobals with
  | some ⟨_, _, .dict es _, _⟩ => es.toList
  | _ => []
def keyO (e : DictEntry) : Option Str := match e.key with
  | .str x _ => some x
  | _ => none
def ge (K : Fg) (i : Nat) : Value := match (gd K)[i]? with
  | some e => e.val
  | none => .none
def gi (K : Fg) (i : Nat) : Addr := match ge K i with
  | .ref a => a
  | _ => 0
def refB (i : Nat) (K : Fg) : Bool := match ge K i with
  | .ref _ => true
  | _ => false
def isRefE (e : DictEntry) : Bool := match e.val with
  | .ref _ => true
  | _ => false
def refsB : List Bool → List DictEntry → Bool
  | [], _ => true
  | _ :: _, [] => false
  | f :: fs, e :: es => (bif f then isRefE e else true) && refsB fs es
def intB (i : Nat) (v : Int) (K : Fg) : Bool := match ge K i with
  | .int n _ => decide (n = v)
  | _ => false
def strO (K : Fg) (i : Nat) : Option Str := match ge K i with
  | .str x _ => some x
  | _ => none
abbrev Tbs : Type := List (Option (List (Option (Str × Int))))
abbrev S1 : Type := (List (Option FN) × Tbs) × (List (Option Str) × List (Option Str))
abbrev Seen : Type := S1 × Bool
def see1 (W : Wn) (K : Fg) : S1 := ((W.fs.map fun d => d.see K, W.tb.map fun t => He.dicW K (t.1 K)), ((gd K).map keyO, W.ss.map fun p => strO K p.1))
def see2 (W : Wn) (g : Addr → Option Obj) (K : Fg) : Bool := (W.fs.all fun d => d.b K) && (W.ex K && W.tf.all fun f => tabB g K (f K))
/-- what is reached, each once, the nearest first; seen: as bits -/
def reach (g : Addr → Option Obj) : Nat → List Addr → List Addr → Nat → List Addr → List Addr
  | 0, _, _, _, acc => acc
  | k + 1, a :: r, nx, seen, acc => bif seen.testBit a then reach g k r nx seen acc else match g a with
    | some o => reach g k r (He.refsO o ++ nx) (seen ||| (1 <<< a)) (a :: acc)
    | none => reach g k r nx (seen ||| (1 <<< a)) acc
  | k + 1, [], a :: r, seen, acc => reach g k (a :: r) [] seen acc
  | _ + 1, [], [], _, acc => acc
/-- what stands at the module's names of these numbers -/
def starts (g : Addr → Option Obj) (is : List Nat) : List Addr := match g mainGlobals with
  | some ⟨_, _, .dict es _, _⟩ => is.filterMap fun i => match es.toList[i]? with
    | some e => (match e.val with
      | .ref a => some a
      | _ => none)
    | none => none
  | _ => []
def part (n : Nat) (is : List Nat) (g : Addr → Option Obj) : Fg := He.frT g (mainGlobals :: cStatics :: (reach g n (starts g is) [] (1 <<< mainGlobals) []).reverse)
def see (n : Nat) (W : Wn) (g : Addr → Option Obj) : Seen := (see1 W (part n W.at_ g), see2 W g (part n W.at_ g))
def due1 (W : Wn) (w : World) : S1 := ((W.fs.map Df.v, W.tb.map fun t => some (He.keysIn w.params (t.2.map (·.1)))), (W.ks.map some, W.ss.map fun p => some p.2))
def due (W : Wn) (w : World) : Seen := (due1 W w, true)
structure Says (W : Wn) (w : World) (h : Heap) (K : Fg) : Prop where
  inn : K.In h
  tb : (W.tb.map fun t => He.dicW K (t.1 K)) = W.tb.map fun t => some (He.keysIn w.params (t.2.map (·.1)))
  ks : (gd K).map keyO = W.ks.map some
  ss : (W.ss.map fun p => strO K p.1) = W.ss.map fun p => some p.2
  v : (W.fs.map fun d => d.see K) = W.fs.map Df.v
  b : (W.fs.all fun d => d.b K) = true
  ex : W.ex K = true
  hd : ∀ f ∈ W.tf, PySem.W.codeHdIn K (cdOf K (f K)) (tbOf K (f K)) = true
  out : ∀ f ∈ W.tf, K.lookup (tbOf K (f K)) = none
  emp : ∀ f ∈ W.tf, h.get? (tbOf K (f K)) = some (PySem.W.tabObj #[])
theorem says_of {n : Nat} {W : Wn} {w : World} {h : Heap} (e0 : see n W h.get? = due W w) : Says W w h (part n W.at_ h.get?) := by
  have e1 : see1 W (part n W.at_ h.get?) = due1 W w := congrArg Prod.fst e0
  have e2 : see2 W h.get? (part n W.at_ h.get?) = true := congrArg Prod.snd e0
  have a1 : W.fs.map (fun d => d.see (part n W.at_ h.get?)) = W.fs.map Df.v := congrArg (fun z => z.1.1) e1
  have a2 : (W.tb.map fun t => He.dicW (part n W.at_ h.get?) (t.1 (part n W.at_ h.get?))) = W.tb.map fun t => some (He.keysIn w.params (t.2.map (·.1))) := congrArg (fun z => z.1.2) e1
  have a3 : (gd (part n W.at_ h.get?)).map keyO = W.ks.map some := congrArg (fun z => z.2.1) e1
  have a4 : (W.ss.map fun p => strO (part n W.at_ h.get?) p.1) = W.ss.map fun p => some p.2 := congrArg (fun z => z.2.2) e1
  unfold see2 at e2
  simp only [Bool.and_eq_true] at e2
  have key : ∀ f ∈ W.tf, PySem.W.codeHdIn (part n W.at_ h.get?) (cdOf (part n W.at_ h.get?) (f (part n W.at_ h.get?))) (tbOf (part n W.at_ h.get?) (f (part n W.at_ h.get?))) = true ∧ ∃ o, h.get? (tbOf (part n W.at_ h.get?) (f (part n W.at_ h.get?))) = some o ∧ He.emptyTab o = true := fun f hf => by
    have t := List.all_eq_true.mp e2.2.2 f hf
    unfold tabB at t
    rw [Bool.and_eq_true] at t
    refine ⟨t.1, ?_⟩
    cases q : h.get? (tbOf (part n W.at_ h.get?) (f (part n W.at_ h.get?))) with
    | none =>
      have t2 := t.2
      rw [q] at t2
      cases t2
    | some o =>
      have t2 := t.2
      rw [q] at t2
      exact ⟨o, rfl, t2⟩
  refine ⟨He.frT_in, a2, a3, a4, a1, e2.1, e2.2.1, fun f hf => (key f hf).1, fun f hf => ?_, fun f hf => ?_⟩
  · obtain ⟨_, o, q, z⟩ := key f hf
    exact He.frT_none q z
  · obtain ⟨_, o, q, z⟩ := key f hf
    rw [q, He.emptyTab_eq z]
def hook (n : Nat) (W : Wn) : PySem.W.Hook where
  α := Seen
  obs := fun s => see n W s.heap.get?
  val := fun w => due W w
  says := fun w h => ∃ K : Fg, Says W w h K
  of := fun _ _ e => ⟨_, says_of e⟩
  keeps := fun _ _ _ ⟨K, c⟩ k => ⟨K, ⟨PySem.W.Frag.In.keeps c.inn k, c.tb, c.ks, c.ss, c.v, c.b, c.ex, c.hd, c.out, fun f hf => k _ _ (c.emp f hf)⟩⟩
/-- the run's equation from its parts -/
theorem run_of {α β γ δ ε : Type} {o : Option α} {f : α → β} {g : α → γ} {p : α → δ} {q : α → ε} {x : β} {y : γ} {z : δ} {t : ε} (h1 : o.map (fun s => (f s, g s)) = some (x, y)) (h2 : o.map p = some z) (h3 : o.map q = some t) :
    o.map (fun s => (f s, g s, (p s, q s))) = some (x, y, (z, t)) := by
  cases o with
  | none => cases h1
  | some s =>
    have e1 := Prod.mk.inj (Option.some.inj h1)
    have e2 := Option.some.inj h2
    have e3 := Option.some.inj h3
    show some (f s, g s, (p s, q s)) = _
    rw [e1.1, e1.2, e2, e3]
theorem hook_ob {n : Nat} {W : Wn} (s : PySem.W.SharedT) : see n W (HandSHeadRun.getT s) = (hook n W).obs s.abs := by
  have e : HandSHeadRun.getT s = s.abs.heap.get? := funext (HandSHeadRun.getT_eq s)
  rw [e]
  rfl
/-! truths of a part of the heap -/
def tpB (ws : List Str) (a : Fg → Addr) (K : Fg) : Bool := match K.lookup (a K) with
  | some ⟨.type c, _, .seq its _, _⟩ => decide (c = "tuple") && decide (its.toList.map absV = (ws.map V.str).map some)
  | _ => false
/-- a class of the text, at the module's name n -/
def clB (n : Nat) (K : Fg) : Bool := PySem.W.isClsIn K (gi K n) && decide (PySem.W.typeIn K (.ref (gi K n)) = some (.type "type"))
/-- an exception's class: W the class above, B the built-in one -/
def exB (n W : Nat) (B newId : String) (bm : List Value) (fl : List Str) (K : Fg) : Bool :=
  clB n K && (exC K (gi K n) (gi K W) B newId bm fl)
where exC (K : Fg) (C W : Addr) (B newId : String) (bm : List Value) (fl : List Str) : Bool :=
  ((PySem.W.clsIn K C).any fun cd => decide (cd.mro = [.ref C, .ref W, .type B, .type "Exception", .type "BaseException", .type "object"])) && (PySem.W.excInitIn K C bm newId && (PySem.W.excOver K C bm &&
  (decide (PySem.W.findIn K (.ref C) "__setattr__" = some (some (.builtin "object.__setattr__"))) && (decide (PySem.W.findIn K (.ref C) "__getattribute__" = some (some (.builtin "BaseException.__getattribute__"))) &&
  (decide (PySem.W.findIn K (.ref C) "__getattr__" = some none) && (PySem.W.keepIn K (.ref C) && (decide (PySem.W.subIn K (.ref C) (.type "BaseException") = some true) && (PySem.W.hasDictIn K C &&
  (decide (PySem.W.findIn K (.ref C) "__init__" = some (some (.ref (He.ma K C "__init__")))) && (decide (PySem.W.typeIn K (.ref (He.ma K C "__init__")) = some (.type "function")) && ((fl.all fun f => decide (PySem.W.findIn K (.ref C) f = some none)) &&
  (decide (PySem.W.findIn K (.ref C) "__class__" = some (some (.builtin "object.__class__"))) && (decide (PySem.W.specialIn K (.builtin "object.__class__") "__get__" = some (some (.builtin "getset_descriptor.__get__"))) &&
  (decide (PySem.W.takesIn K (.builtin "object.__class__") = some true) && decide (PySem.W.mroIn K C (.type "object") = some true)))))))))))))))
/-- where an exception's maker stands -/
def iniA (n : Nat) (K : Fg) : Addr := He.ma K (gi K n) "__init__"
/-! a class with attributes -/
def ownB (n : Nat) (fl : List Str) (K : Fg) : Bool := clB n K && (PySem.W.plainGet K (gi K n) Str.empty && (PySem.W.hasDictIn K (gi K n) && (PySem.W.plainOver K (gi K n) &&
  (decide (PySem.W.findIn K (.ref (gi K n)) "__setattr__" = some (some (.builtin "object.__setattr__"))) && ((fl.all fun f => decide (PySem.W.findIn K (.ref (gi K n)) f = some none)) &&
  (PySem.W.makesIn K (gi K n) && (decide (PySem.W.findIn K (.ref (gi K n)) "__init__" = some (some (.ref (iniA n K)))) && (PySem.W.isFn K (.ref (iniA n K)) && PySem.W.keepIn K (.ref (gi K n))))))))))
/-- a property's object, its getter -/
def prA (n : Nat) (f : Str) (K : Fg) : Addr := He.ma K (gi K n) f
def gtA (n : Nat) (f : Str) (K : Fg) : Addr := match PySem.W.recIn K (prA n f K) "property" with
  | some (.ref g :: _) => g
  | _ => 0
def prB (n : Nat) (f : Str) (K : Fg) : Bool := decide (PySem.W.findIn K (.ref (gi K n)) f = some (some (.ref (prA n f K)))) && (decide (PySem.W.specialIn K (.ref (prA n f K)) "__get__" = some (some (.builtin "property.__get__"))) &&
  (decide (PySem.W.takesIn K (.ref (prA n f K)) = some true) && (match PySem.W.recIn K (prA n f K) "property" with
  | some (.ref g :: _) => true
  | _ => false)))
def topA (i : Nat) : Stmt := PySem.Challenge.pw_holdhouse_k57_books_keep_houses.main.body.getD i (.Pass ⟨0, 0, 0, 0⟩)
def clsA (i j : Nat) : Stmt := match topA i with
  | .ClassDef _ _ _ body .. => body.getD j (.Pass ⟨0, 0, 0, 0⟩)
  | _ => .Pass ⟨0, 0, 0, 0⟩
end L2.HM

set_option Elab.async false
set_option linter.all false
set_option maxRecDepth 100000
set_option maxHeartbeats 400000
/-! The top's run by an own executor: what a step of the heap, a rule, a place asks is done at once; it ends where the library's run ends. -/
namespace L2.HX
open PySem PySem.W HandSHeadRun
def goXs (st : SharedT → Thread → Option (SharedT × Thread)) (p : Program) (w : World) (n0 : Nat) (ann : Option Value) (m : Nat) : BT → Nat → Life → Array GenState → Drawn → Nat → OsState → Sem Fin → Code → Pos → List Frame → Option SharedT :=
  Nat.rec (fun _ _ _ _ _ _ _ _ _ _ _ => none) (fun _ ih T n life gens drawn toks os cur code pos stack =>
    match cur with
    | .load a _ k => (match Nat.blt a n with
      | true => (match T.get a with
        | some o => (match alive o with
          | some o' => ih T n life gens drawn toks os (k o') code pos stack
          | none => none)
        | none => none)
      | false => none)
    | .update a _ f k => (match Nat.ble n0 a || a == mainNs || a == cStatics || ann == some (.ref a) with
      | true => (match Nat.blt a n with
        | true => (match T.get a with
          | some o => (match alive o with
            | some _ => ih (T.set a f) n life gens drawn toks os (k ()) code pos stack
            | none => none)
          | none => none)
        | false => none)
      | false => none)
    | .alloc o k => (match ((T.ins n o).get n).isSome with
      | true => frNat (n + 1) fun n1 => ih (T.ins n o) n1 life gens drawn toks os (k n) code pos stack
      | false => none)
    | .loadIfAlive a k => (match Nat.blt a n with
      | true => (match T.get a with
        | some o => ih T n life gens drawn toks os (k (alive o)) code pos stack
        | none => none)
      | false => ih T n life gens drawn toks os (k none) code pos stack)
    | .rule _ k => ih T n life gens drawn toks os (k ()) code pos stack
    | .at p' k => ih T n life gens drawn toks os (k ()) code p' stack
    | .point _ k => ih T n life gens drawn toks os (k ()) code pos stack
    | .fresh k => frNat (toks + 1) fun t1 => ih T n life gens drawn t1 os (k toks) code pos stack
    | .ask k => ih T n life gens drawn toks os (k ⟨p, w.params⟩) code pos stack
    | c => (match through ⟨c, code, pos, stack⟩ with
      | true => some ⟨T, n, life, gens, drawn, toks, os⟩
      | false => (match stepOk n0 ann ⟨c, code, pos, stack⟩ with
        | false => none
        | true => (match st ⟨T, n, life, gens, drawn, toks, os⟩ ⟨c, code, pos, stack⟩ with
          | some (⟨T', n', life', gens', drawn', toks', os'⟩, ⟨cur', code', pos', stack'⟩) => ih T' n' life' gens' drawn' toks' os' cur' code' pos' stack'
          | none => none)))) m
noncomputable def endX (st : SharedT → Thread → Option (SharedT × Thread)) (M : Nat) (p : Program) (w : World) (os : OsState) : Option SharedT := match putAll (boot_heap w.params).objs.toList .nil 0 with
  | some (t, n) => frNat n fun n0 => goXs st p w n0 (bootAnn w) M t n0 (boot_heap w.params).life #[] boot_drawn boot_toks os (topStub p).cur (topStub p).code (topStub p).pos (topStub p).stack
  | none => none
theorem goF_step {st : SharedT → Thread → Option (SharedT × Thread)} {n0 : Nat} {ann : Option Value} {m : Nat} {s s1 r : SharedT} {t t1 : Thread} (ht : through t = false) (hk : stepOk n0 ann t = true) (hs : st s t = some (s1, t1)) (h : goF st n0 ann m s1 t1 = some r) : goF st n0 ann (m + 1) s t = some r := by
  show (match through t with
    | true => some s
    | false => match stepOk n0 ann t with
      | false => none
      | true => match st s t with
        | some (s', t') => frS s' fun s' => goF st n0 ann m s' t'
        | none => none) = some r
  rw [ht]
  dsimp only
  rw [hk]
  dsimp only
  rw [hs]
  dsimp only
  rw [frS_eq]
  exact h
theorem goX_ok {den : Code → Sem Fin} {p : Program} {w : World} {n0 : Nat} {ann : Option Value} : ∀ {m : Nat} {T : BT} {n : Nat} {life : Life} {gens : Array GenState} {drawn : Drawn} {toks : Nat} {os : OsState} {cur : Sem Fin} {code : Code} {pos : Pos} {stack : List Frame} {r : SharedT},
    goXs (stepT den p w) p w n0 ann m T n life gens drawn toks os cur code pos stack = some r → goF (stepT den p w) n0 ann m ⟨T, n, life, gens, drawn, toks, os⟩ ⟨cur, code, pos, stack⟩ = some r
  | 0, _, _, _, _, _, _, _, _, _, _, _, _, h => by cases h
  | m + 1, T, n, life, gens, drawn, toks, os, cur, code, pos, stack, r, h => by
    have gen : (match through ⟨cur, code, pos, stack⟩ with
      | true => some (⟨T, n, life, gens, drawn, toks, os⟩ : SharedT)
      | false => (match stepOk n0 ann ⟨cur, code, pos, stack⟩ with
        | false => none
        | true => (match stepT den p w ⟨T, n, life, gens, drawn, toks, os⟩ ⟨cur, code, pos, stack⟩ with
          | some (⟨T', n', life', gens', drawn', toks', os'⟩, ⟨cur', code', pos', stack'⟩) => goXs (stepT den p w) p w n0 ann m T' n' life' gens' drawn' toks' os' cur' code' pos' stack'
          | none => none))) = some r → goF (stepT den p w) n0 ann (m + 1) ⟨T, n, life, gens, drawn, toks, os⟩ ⟨cur, code, pos, stack⟩ = some r := fun h => by
      cases ht : through ⟨cur, code, pos, stack⟩ with
      | true =>
        rw [ht] at h
        unfold goF
        rw [ht]
        exact h
      | false =>
        rw [ht] at h
        dsimp only at h
        cases hk : stepOk n0 ann ⟨cur, code, pos, stack⟩ with
        | false => rw [hk] at h; cases h
        | true =>
          rw [hk] at h
          dsimp only at h
          cases hs : stepT den p w ⟨T, n, life, gens, drawn, toks, os⟩ ⟨cur, code, pos, stack⟩ with
          | none => rw [hs] at h; cases h
          | some q =>
            obtain ⟨⟨T', n', life', gens', drawn', toks', os'⟩, ⟨cur', code', pos', stack'⟩⟩ := q
            rw [hs] at h
            exact goF_step ht hk hs (goX_ok h)
    cases cur with
    | load a q k =>
      have h1 : (match Nat.blt a n with
        | true => (match T.get a with
          | some o => (match alive o with
            | some o' => goXs (stepT den p w) p w n0 ann m T n life gens drawn toks os (k o') code pos stack
            | none => none)
          | none => none)
        | false => none) = some r := h
      cases e1 : Nat.blt a n with
      | false => rw [e1] at h1; cases h1
      | true =>
        rw [e1] at h1
        dsimp only at h1
        cases e2 : T.get a with
        | none => rw [e2] at h1; cases h1
        | some o =>
          rw [e2] at h1
          dsimp only at h1
          cases e3 : alive o with
          | none => rw [e3] at h1; cases h1
          | some o' =>
            rw [e3] at h1
            refine goF_step (by unfold through; exact Bool.and_false _) rfl ?_ (goX_ok h1)
            unfold stepT
            dsimp only
            rw [e1]
            dsimp only
            rw [e2]
            dsimp only
            rw [e3]
    | rule q k => exact goF_step (by unfold through; exact Bool.and_false _) rfl rfl (goX_ok (show goXs (stepT den p w) p w n0 ann m T n life gens drawn toks os (k ()) code pos stack = some r from h))
    | «at» q k => exact goF_step (by unfold through; exact Bool.and_false _) rfl rfl (goX_ok (show goXs (stepT den p w) p w n0 ann m T n life gens drawn toks os (k ()) code q stack = some r from h))
    | point q k => exact goF_step (by unfold through; exact Bool.and_false _) rfl rfl (goX_ok (show goXs (stepT den p w) p w n0 ann m T n life gens drawn toks os (k ()) code pos stack = some r from h))
    | ask k => exact goF_step (by unfold through; exact Bool.and_false _) rfl rfl (goX_ok (show goXs (stepT den p w) p w n0 ann m T n life gens drawn toks os (k ⟨p, w.params⟩) code pos stack = some r from h))
    | fresh k =>
      have h1 : (frNat (toks + 1) fun t1 => goXs (stepT den p w) p w n0 ann m T n life gens drawn t1 os (k toks) code pos stack) = some r := h
      rw [frNat_eq] at h1
      exact goF_step (by unfold through; exact Bool.and_false _) rfl rfl (goX_ok h1)
    | update a q f k =>
      have h1 : (match Nat.ble n0 a || a == mainNs || a == cStatics || ann == some (.ref a) with
        | true => (match Nat.blt a n with
          | true => (match T.get a with
            | some o => (match alive o with
              | some _ => goXs (stepT den p w) p w n0 ann m (T.set a f) n life gens drawn toks os (k ()) code pos stack
              | none => none)
            | none => none)
          | false => none)
        | false => none) = some r := h
      cases e0 : (Nat.ble n0 a || a == mainNs || a == cStatics || ann == some (.ref a)) with
      | false => rw [e0] at h1; cases h1
      | true =>
        rw [e0] at h1
        dsimp only at h1
        cases e1 : Nat.blt a n with
        | false => rw [e1] at h1; cases h1
        | true =>
          rw [e1] at h1
          dsimp only at h1
          cases e2 : T.get a with
          | none => rw [e2] at h1; cases h1
          | some o =>
            rw [e2] at h1
            dsimp only at h1
            cases e3 : alive o with
            | none => rw [e3] at h1; cases h1
            | some o' =>
              rw [e3] at h1
              refine goF_step (by unfold through; exact Bool.and_false _) ?_ ?_ (goX_ok h1)
              · show (true && (Nat.ble n0 a || a == mainNs || a == cStatics || ann == some (.ref a))) = true
                rw [e0]
                rfl
              · unfold stepT
                dsimp only
                rw [e1]
                dsimp only
                rw [e2]
                dsimp only
                rw [e3]
    | alloc o k =>
      have h1 : (match ((T.ins n o).get n).isSome with
        | true => frNat (n + 1) fun n1 => goXs (stepT den p w) p w n0 ann m (T.ins n o) n1 life gens drawn toks os (k n) code pos stack
        | false => none) = some r := h
      cases e1 : ((T.ins n o).get n).isSome with
      | false => rw [e1] at h1; cases h1
      | true =>
        rw [e1] at h1
        dsimp only at h1
        rw [frNat_eq] at h1
        refine goF_step (by unfold through; exact Bool.and_false _) rfl ?_ (goX_ok h1)
        unfold stepT
        dsimp only
        rw [e1]
    | loadIfAlive a k =>
      have h1 : (match Nat.blt a n with
        | true => (match T.get a with
          | some o => goXs (stepT den p w) p w n0 ann m T n life gens drawn toks os (k (alive o)) code pos stack
          | none => none)
        | false => goXs (stepT den p w) p w n0 ann m T n life gens drawn toks os (k none) code pos stack) = some r := h
      cases e1 : Nat.blt a n with
      | false =>
        rw [e1] at h1
        refine goF_step (by unfold through; exact Bool.and_false _) rfl ?_ (goX_ok h1)
        unfold stepT
        dsimp only
        rw [e1]
      | true =>
        rw [e1] at h1
        dsimp only at h1
        cases e2 : T.get a with
        | none => rw [e2] at h1; cases h1
        | some o =>
          rw [e2] at h1
          refine goF_step (by unfold through; exact Bool.and_false _) rfl ?_ (goX_ok h1)
          unfold stepT
          dsimp only
          rw [e1]
          dsimp only
          rw [e2]
    | _ => exact gen h
theorem endX_ok {M : Nat} {p : Program} {w : World} {os : OsState} {s : SharedT} (h : endX (stepQ (denQ tabQ) p w) M p w os = some s) : endF (stepQ (denQ tabQ) p w) M p w os = some s := by
  rw [← stepQ_eq, ← denQ_eq, ← tabQ_eq] at h ⊢
  unfold endX at h
  unfold endF
  cases e : putAll (boot_heap w.params).objs.toList .nil 0 with
  | none => rw [e] at h; cases h
  | some q =>
    obtain ⟨t, n⟩ := q
    rw [e] at h
    dsimp only at h ⊢
    rw [frNat_eq] at h ⊢
    exact goX_ok h
end L2.HX

set_option Elab.async false
set_option linter.all false
set_option maxRecDepth 100000
set_option maxHeartbeats 0
namespace L2.HE6
open PySem PySem.W PyProof.Rows L2 L2.HM HandSHeadRun
abbrev R : PySem.W.OpenRow := PySem.W.OpenLaw.row PySem.Challenge.rw_holdhouse_k57_books_keep_houses
def nm0 : List PySem.Str := ["_wall", "MOST_LINES", "MOST_STANDS", "MOST_KEYS", "MOST_ROWS", "MOST_CONDITIONS", "MOST_DEEDS", "MOST_SHAPES", "LONGEST_WORD", "PARTING_WORDS", "HEARD_WORDS", "PLAIN_OCCASIONS", "KEY_OPENING", "LINE_CONDITIONS", "PICTURE_CONDITIONS", "PHONE_CONDITIONS", "STAND_CONDITION_OPENING", "LINE_DEEDS", "PHONE_DEEDS", "KEY_DEEDS", "STAND_DEED_OPENING", "is_integer", "is_between", "is_word", "is_stand", "wrong_stand", "stand_words", "wrong_key", "wrong_row", "is_row"]
def nm1 : List PySem.Str := ["row_parts", "is_occasion", "is_condition", "condition_parts", "is_line_condition", "is_picture", "is_picture_condition", "is_deed", "has_phone", "has_key", "names_one", "WrongValue", "WrongState", "NoAnswer", "InvalidNumber", "InvalidText", "InvalidName", "InvalidWish", "InvalidIndex", "InvalidPicture", "NotAHouse", "InvalidStands", "InvalidKeys", "InvalidRows", "WrongLine", "UnknownName", "InUse", "TooMany", "Broken", "FEWEST_STANDS"]
def nm2 : List PySem.Str := ["House", "check_stands", "check_keys", "check_rows", "house_text", "read_first_line", "read_stands", "check_house", "check_picture", "STAND", "CALLER", "PLACE_A", "PLACE_B", "MATE", "beginning", "with_loose", "placed_phones", "loose_phones", "shape_of", "in_order", "has_voice", "has_stranger", "calls_away", "FACTS", "FIRST_STAND_FACT", "facts_of_stands", "fact_masks", "line_facts", "presser_facts", "holds"]
def nm3 : List PySem.Str := ["heard_word", "PLACES", "Draft", "frozen", "deed_parts", "set_stand", "empty_place", "bring_some", "bring_presser", "take_place", "coming_phone", "swap_places", "deafen_line", "part_mates", "let_hear", "join_lines", "clear_line", "drop_hearers", "ACTIONS", "do_deeds", "openings", "line_of", "presser_of", "occasion_of", "row_at", "row_with", "facts_without_ear", "drafted", "come_or_go", "is_event_form"]
def nm4 : List PySem.Str := ["all_openings", "standing_behind", "Step", "Steps", "is_calm", "all_steps", "steps_with", "one_step", "Plan", "rows_at_occasions", "ORDERS", "Web", "Walk", "walk_with", "check_fewer_lines", "many_with_lines", "all_walks", "weaving_to", "told_events", "event_at", "renamed", "lines_showing", "first_weaving", "away_weaving", "stuck_place", "stuck_weaving", "distances", "calm_ahead", "parting_words", "round_numbers"]
def nm5 : List PySem.Str := ["turned", "leaving_order", "fill_round", "END", "Spots", "words_at", "number_spots", "Stories", "add_moves", "ways_of_rounds", "parted", "moves_of_rounds", "NAMES", "PICTURES", "is_wish_form", "names_of", "pictures_of", "Asked", "Page", "Book", "is_name", "check_pictures", "check_wishes", "_law_purse", "_law_draw", "_law_pick", "_law_called", "_law_kept", "_law_strange"]
def names : List PySem.Str := nm0 ++ nm1 ++ nm2 ++ nm3 ++ nm4 ++ nm5
def hE (i : Nat) : Fg → Addr := He.dflAt ("House", some "__init__") i
def mtB (n : Nat) (f : PySem.Str) (K : Fg) : Bool := decide (PySem.W.findIn K (.ref (gi K n)) f = some (some (.ref (prA n f K)))) && PySem.W.isFn K (.ref (prA n f K))
def hoB (K : Fg) : Bool := PySem.W.notFirst K (gi K 69) (.ref (gi K 69)) && (decide (PySem.W.findIn K (.ref (gi K 69)) "__class__" = some (some (.builtin "object.__class__"))) && (decide (PySem.W.specialIn K (.builtin "object.__class__") "__get__" = some (some (.builtin "getset_descriptor.__get__"))) && (decide (PySem.W.takesIn K (.builtin "object.__class__") = some true) && decide (PySem.W.mroIn K (gi K 69) (.type "object") = some true))))
def bkB (K : Fg) : Bool := PySem.W.fnIn K (prA 178 "__getitem__" K) && (PySem.W.noSeq K (gi K 178) && (decide (PySem.W.mroIn K (gi K 178) (.type "object") = some true) && (decide (PySem.W.findIn K (.ref (gi K 178)) "__eq__" = some (some (.builtin "object.__eq__"))) && decide (PySem.W.findIn K (.ref (gi K 178)) "__ne__" = some (some (.builtin "object.__ne__"))))))
def exK (K : Fg) : Bool := decide (PySem.W.exmOne K (.ref (gi K 64)) (.ref (gi K 64)) = some true) && (decide (PySem.W.kitOne K (.ref (gi K 64)) (.ref (gi K 51)) = some true) && decide (PySem.W.kitAny K (.ref (gi K 64)) [.ref (gi K 50), .ref (gi K 52), .ref (gi K 57)] = some false))
def fs0 : List Df := [⟨fun K => gi K 182, "_law_purse", "_law_purse", topA 193, fun _ => []⟩,
  ⟨fun K => gi K 183, "_law_draw", "_law_draw", topA 194, fun _ => []⟩,
  ⟨fun K => gi K 184, "_law_pick", "_law_pick", topA 195, fun _ => []⟩,
  ⟨fun K => gi K 185, "_law_called", "_law_called", topA 196, fun _ => []⟩,
  ⟨fun K => gi K 186, "_law_kept", "_law_kept", topA 197, fun _ => []⟩,
  ⟨fun K => gi K 187, "_law_strange", "_law_strange", topA 198, fun _ => []⟩,
  ⟨fun K => gi K 188, "law", "law", topA 199, fun _ => []⟩,
  ⟨fun K => gi K 179, "is_name", "is_name", topA 189, fun _ => []⟩,
  ⟨fun K => gi K 76, "check_house", "check_house", topA 71, fun _ => []⟩,
  ⟨fun K => gi K 181, "check_wishes", "check_wishes", topA 191, fun _ => []⟩,
  ⟨fun K => gi K 30, "is_integer", "is_integer", topA 22, fun _ => []⟩,
  ⟨fun K => gi K 31, "is_between", "is_between", topA 23, fun _ => []⟩,
  ⟨fun K => gi K 32, "is_word", "is_word", topA 24, fun _ => []⟩,
  ⟨fun K => gi K 33, "is_stand", "is_stand", topA 25, fun _ => []⟩,
  ⟨fun K => gi K 34, "wrong_stand", "wrong_stand", topA 26, fun _ => []⟩,
  ⟨fun K => gi K 35, "stand_words", "stand_words", topA 27, fun _ => []⟩,
  ⟨fun K => gi K 36, "wrong_key", "wrong_key", topA 28, fun _ => []⟩,
  ⟨fun K => gi K 37, "wrong_row", "wrong_row", topA 29, fun _ => []⟩,
  ⟨fun K => gi K 38, "is_row", "is_row", topA 30, fun _ => []⟩,
  ⟨fun K => gi K 39, "row_parts", "row_parts", topA 31, fun _ => []⟩]
def fs1 : List Df := [⟨fun K => gi K 40, "is_occasion", "is_occasion", topA 32, fun _ => []⟩,
  ⟨fun K => gi K 41, "is_condition", "is_condition", topA 33, fun _ => []⟩,
  ⟨fun K => gi K 42, "condition_parts", "condition_parts", topA 34, fun _ => []⟩,
  ⟨fun K => gi K 43, "is_line_condition", "is_line_condition", topA 35, fun _ => []⟩,
  ⟨fun K => gi K 46, "is_deed", "is_deed", topA 38, fun _ => []⟩,
  ⟨fun K => gi K 47, "has_phone", "has_phone", topA 39, fun _ => []⟩,
  ⟨fun K => gi K 48, "has_key", "has_key", topA 40, fun _ => []⟩,
  ⟨fun K => gi K 49, "names_one", "names_one", topA 41, fun _ => []⟩,
  ⟨fun K => gi K 70, "check_stands", "check_stands", topA 64, fun _ => []⟩,
  ⟨fun K => gi K 71, "check_keys", "check_keys", topA 65, fun _ => []⟩,
  ⟨fun K => gi K 72, "check_rows", "check_rows", topA 66, fun _ => []⟩,
  ⟨fun K => gi K 73, "house_text", "house_text", topA 67, fun _ => []⟩,
  ⟨iniA 53, "__init__", "InvalidNumber.__init__", clsA 46 0, fun _ => []⟩,
  ⟨iniA 60, "__init__", "InvalidStands.__init__", clsA 53 0, fun _ => []⟩,
  ⟨iniA 61, "__init__", "InvalidKeys.__init__", clsA 54 0, fun _ => []⟩,
  ⟨iniA 62, "__init__", "InvalidRows.__init__", clsA 55 0, fun _ => []⟩,
  ⟨iniA 64, "__init__", "UnknownName.__init__", clsA 57 0, fun _ => []⟩,
  ⟨iniA 69, "__init__", "House.__init__", clsA 63 0, fun K => [.ref (hE 0 K), .ref (hE 1 K)]⟩,
  ⟨prA 69 "__eq__", "__eq__", "House.__eq__", clsA 63 11, fun _ => []⟩,
  ⟨iniA 177, "__init__", "Page.__init__", clsA 187 0, fun _ => []⟩]
def fs2 : List Df := [⟨iniA 178, "__init__", "Book.__init__", clsA 188 0, fun _ => []⟩,
  ⟨iniA 176, "__init__", "Asked.__init__", clsA 185 0, fun _ => []⟩,
  ⟨prA 178 "put", "put", "Book.put", clsA 188 1, fun _ => []⟩,
  ⟨prA 178 "remove", "remove", "Book.remove", clsA 188 2, fun _ => []⟩,
  ⟨prA 178 "turn_to", "turn_to", "Book.turn_to", clsA 188 6, fun _ => []⟩,
  ⟨prA 178 "check_known", "check_known", "Book.check_known", clsA 188 7, fun _ => []⟩,
  ⟨prA 178 "__setitem__", "__setitem__", "Book.__setitem__", clsA 188 13, fun _ => []⟩,
  ⟨prA 178 "__getitem__", "__getitem__", "Book.__getitem__", clsA 188 14, fun _ => []⟩,
  ⟨prA 178 "__contains__", "__contains__", "Book.__contains__", clsA 188 15, fun _ => []⟩,
  ⟨prA 178 "__len__", "__len__", "Book.__len__", clsA 188 17, fun _ => []⟩,
  ⟨prA 178 "__bool__", "__bool__", "Book.__bool__", clsA 188 18, fun _ => []⟩,
  ⟨gtA 178 "names", "names", "Book.names", clsA 188 8, fun _ => []⟩,
  ⟨gtA 178 "wishes", "wishes", "Book.wishes", clsA 188 9, fun _ => []⟩,
  ⟨gtA 178 "changes", "changes", "Book.changes", clsA 188 10, fun _ => []⟩]
def fs : List Df := fs0 ++ fs1 ++ fs2
def ks0 : List PySem.Str := ["__name__", "__doc__", "__package__", "__loader__", "__spec__", "__annotations__", "__builtins__", "__file__", "__cached__", "_wall", "MOST_LINES", "MOST_STANDS", "MOST_KEYS", "MOST_ROWS", "MOST_CONDITIONS", "MOST_DEEDS", "MOST_SHAPES", "LONGEST_WORD", "PARTING_WORDS", "HEARD_WORDS", "PLAIN_OCCASIONS", "KEY_OPENING", "LINE_CONDITIONS", "PICTURE_CONDITIONS", "PHONE_CONDITIONS", "STAND_CONDITION_OPENING", "LINE_DEEDS", "PHONE_DEEDS", "KEY_DEEDS", "STAND_DEED_OPENING"]
def ks1 : List PySem.Str := ["is_integer", "is_between", "is_word", "is_stand", "wrong_stand", "stand_words", "wrong_key", "wrong_row", "is_row", "row_parts", "is_occasion", "is_condition", "condition_parts", "is_line_condition", "is_picture", "is_picture_condition", "is_deed", "has_phone", "has_key", "names_one", "WrongValue", "WrongState", "NoAnswer", "InvalidNumber", "InvalidText", "InvalidName", "InvalidWish", "InvalidIndex", "InvalidPicture", "NotAHouse"]
def ks2 : List PySem.Str := ["InvalidStands", "InvalidKeys", "InvalidRows", "WrongLine", "UnknownName", "InUse", "TooMany", "Broken", "FEWEST_STANDS", "House", "check_stands", "check_keys", "check_rows", "house_text", "read_first_line", "read_stands", "check_house", "check_picture", "STAND", "CALLER", "PLACE_A", "PLACE_B", "MATE", "beginning", "with_loose", "placed_phones", "loose_phones", "shape_of", "in_order", "has_voice"]
def ks3 : List PySem.Str := ["has_stranger", "calls_away", "FACTS", "FIRST_STAND_FACT", "facts_of_stands", "fact_masks", "line_facts", "presser_facts", "holds", "heard_word", "PLACES", "Draft", "frozen", "deed_parts", "set_stand", "empty_place", "bring_some", "bring_presser", "take_place", "coming_phone", "swap_places", "deafen_line", "part_mates", "let_hear", "join_lines", "clear_line", "drop_hearers", "ACTIONS", "do_deeds", "openings"]
def ks4 : List PySem.Str := ["line_of", "presser_of", "occasion_of", "row_at", "row_with", "facts_without_ear", "drafted", "come_or_go", "is_event_form", "all_openings", "standing_behind", "Step", "Steps", "is_calm", "all_steps", "steps_with", "one_step", "Plan", "rows_at_occasions", "ORDERS", "Web", "Walk", "walk_with", "check_fewer_lines", "many_with_lines", "all_walks", "weaving_to", "told_events", "event_at", "renamed"]
def ks5 : List PySem.Str := ["lines_showing", "first_weaving", "away_weaving", "stuck_place", "stuck_weaving", "distances", "calm_ahead", "parting_words", "round_numbers", "turned", "leaving_order", "fill_round", "END", "Spots", "words_at", "number_spots", "Stories", "add_moves", "ways_of_rounds", "parted", "moves_of_rounds", "NAMES", "PICTURES", "is_wish_form", "names_of", "pictures_of", "Asked", "Page", "Book", "is_name"]
def ks6 : List PySem.Str := ["check_pictures", "check_wishes", "_law_purse", "_law_draw", "_law_pick", "_law_called", "_law_kept", "_law_strange", "law"]
def ssl : List (Nat × PySem.Str) := [(21, "key "), (25, "in "), (29, "stand ")]
def flags : List Bool := [false, false, false, false, false, false, false, false, false, false, false, false, false, false, false, false, false, false, true, true, true, false, true, false, true, false, true, true, true, false, true, true, true, true, true, true, true, true, true, true, true, true, true, true, false, false, true, true, true, true, true, true, true, true, false, false, false, true, false, false, true, true, true, false, true, false, false, false, false, true, true, true, true, true, false, false, true, false, false, false, false, false, false, false, false, false, false, false, false, false, false, false, false, false, false, false, false, false, false, false, false, false, false, false, false, false, false, false, false, false, false, false, false, false, false, false, false, false, false, false, false, false, false, false, false, false, false, false, false, false, false, false, false, false, false, false, false, false, false, false, false, false, false, false, false, false, false, false, false, false, false, false, false, false, false, false, false, false, false, false, false, false, false, false, false, false, false, false, false, false, false, false, false, false, false, false, true, true, true, true, false, true, true, true, true, true, true, true, true]
def ksl : List PySem.Str := ks0 ++ ks1 ++ ks2 ++ ks3 ++ ks4 ++ ks5 ++ ks6
def ex0 : List (Fg → Bool) := [fun K => refsB flags (gd K),
  intB 14 4,
  intB 15 4,
  intB 17 8,
  intB 10 3,
  intB 11 6,
  intB 12 3,
  intB 13 16,
  intB 68 2,
  exB 53 50 "ValueError" "ValueError.__new__" [.type "ValueError", .type "Exception", .type "BaseException", .type "object"] ["given"],
  exB 60 50 "ValueError" "ValueError.__new__" [.type "ValueError", .type "Exception", .type "BaseException", .type "object"] ["index"],
  exB 61 50 "ValueError" "ValueError.__new__" [.type "ValueError", .type "Exception", .type "BaseException", .type "object"] ["index"],
  exB 62 50 "ValueError" "ValueError.__new__" [.type "ValueError", .type "Exception", .type "BaseException", .type "object"] ["index"],
  exB 64 51 "LookupError" "LookupError.__new__" [.type "LookupError", .type "Exception", .type "BaseException", .type "object"] ["given"],
  tpB ["and", "if", "not"] fun K => gi K 18,
  tpB ["voice", "stranger", "both", "over", "gone"] fun K => gi K 19,
  tpB ["call", "gone", "late", "lay"] fun K => gi K 20,
  tpB ["caller", "joined", "a", "b", "ear a", "ear b"] fun K => gi K 22,
  tpB ["me a", "me b", "busy"] fun K => gi K 24,
  tpB ["a none", "a some", "b none", "b some", "swap", "deaf", "part"] fun K => gi K 26]
def ex1 : List (Fg → Bool) := [tpB ["a me", "b me"] fun K => gi K 27,
  tpB ["hear", "join"] fun K => gi K 28,
  tpB [] (hE 0),
  tpB [] (hE 1),
  ownB 69 ["line_count", "stand_pairs", "key_names", "row_texts", "text"],
  ownB 177 ["houses", "wish_row", "before", "depth"],
  ownB 178 ["page"],
  ownB 176 ["houses", "known"],
  prB 178 "names",
  prB 178 "wishes",
  prB 178 "changes",
  mtB 178 "put",
  mtB 178 "remove",
  mtB 178 "turn_to",
  mtB 178 "check_known",
  mtB 178 "__setitem__",
  mtB 178 "__getitem__",
  mtB 178 "__contains__",
  mtB 178 "__len__",
  mtB 178 "__bool__"]
def ex2 : List (Fg → Bool) := [mtB 69 "__eq__",
  hoB,
  bkB,
  exK]
def exl : List (Fg → Bool) := ex0 ++ ex1 ++ ex2
def ats : List Nat := [18, 19, 20, 22, 24, 26, 27, 28, 69, 177, 178, 176, 53, 60, 61, 62, 64, 51, 50, 52, 57, 182, 183, 184, 185, 186, 187, 188, 179, 76, 181, 30, 31, 32, 33, 34, 35, 36, 37, 38, 39, 40, 41, 42, 43, 46, 47, 48, 49, 70, 71, 72, 73]
def fsA : List Df := fs0 ++ fs1
def fsB : List Df := fs2
def exA : List (Fg → Bool) := ex0 ++ ex1
def exB : List (Fg → Bool) := ex2
theorem ex_ab : exl = exA ++ exB := by simp only [exl, exA, exB, List.append_assoc]
theorem fs_ab : fs = fsA ++ fsB := by simp only [fs, fsA, fsB, List.append_assoc]
def wn : Wn := ⟨fs, fun K => exl.all fun f => f K, [], [], ksl, ssl, ats⟩
abbrev hk : PySem.W.Hook := hook 6000 wn
def ob (s : PySem.W.SharedT) : L2.HM.Seen := see 6000 wn (HandSHeadRun.getT s)
theorem ob_eq (s : PySem.W.SharedT) : ob s = hk.obs s.abs := hook_ob s
abbrev KT (s : PySem.W.SharedT) : Fg := part 6000 ats (getT s)
def vA (l : List Df) (K : Fg) : List (Option FN) × Bool := (l.map fun d => d.see K, l.all fun d => d.b K)
theorem c1 : plainsOf (PySem.W.view R.prog [199]) (looseW (PySem.W.view R.prog [199]) names) = [] := by
  kernel_rfl
theorem c2 : dclssOf (PySem.W.view R.prog [199]) names = [] := by
  kernel_rfl
theorem c3 : wclssOf (PySem.W.view R.prog [199]) names = [] := by
  kernel_rfl
theorem c4 : drecsOf (PySem.W.view R.prog [199]) = [] := by
  kernel_rfl
theorem c5 : wdefsOf (PySem.W.view R.prog [199]) = [] := by
  kernel_rfl
theorem c6 : wlitsOf (PySem.W.view R.prog [199]) = [] := by
  kernel_rfl
theorem c7 : ownsOf (PySem.W.view R.prog [199]) = [] := by
  kernel_rfl
theorem c8 : (ksl.all fun k => startupNames.contains k || R.prog.boundNames.contains k) = true := by
  kernel_rfl
theorem c9 : (ksl.all fun k => startupNames.contains k || (looseW (PySem.W.view R.prog [199]) names).contains k || ((recsOf (PySem.W.view R.prog [199])).map (·.name)).contains k || ((litsOf (PySem.W.view R.prog [199])).map (·.1)).contains k || ((clssOf (PySem.W.view R.prog [199]) (looseW (PySem.W.view R.prog [199]) names)).map (·.name)).contains k) = true := by
  kernel_rfl
theorem keys_of {s : PySem.W.SharedT} (h : (gd (KT s)).map keyO = ksl.map some) : s.abs.heap.nsKeys mainGlobals = ksl ∧ s.abs.heap.isNs mainGlobals = true := by
  have hin : (KT s).In s.abs.heap := by
    have e : HandSHeadRun.getT s = s.abs.heap.get? := funext (HandSHeadRun.getT_eq s)
    show (part 6000 ats (getT s)).In s.abs.heap
    rw [e]
    exact He.frT_in
  have ne : gd (KT s) ≠ [] := fun z => by
    rw [z] at h
    cases h
  have fin : ∀ es : List DictEntry, es.map keyO = ksl.map some → (es.filterMap fun e => match e.key with | .str n _ => some n | _ => none) = ksl := fun es hk => by
    show es.filterMap keyO = ksl
    have e : es.filterMap keyO = (es.map keyO).filterMap id := by rw [List.filterMap_map]; rfl
    rw [e, hk, List.filterMap_map]
    exact List.filterMap_some
  have allK : ∀ (es : List DictEntry) (ks : List PySem.Str), es.map keyO = ks.map some → (es.all fun e => match e.key with | .str _ _ => true | _ => false) = true := fun es ks hk => by
    rw [List.all_eq_true]
    intro e he
    have he' : keyO e ∈ ks.map some := hk ▸ List.mem_map_of_mem he
    obtain ⟨x, _, hx⟩ := List.mem_map.mp he'
    unfold keyO at hx
    split at hx
    · rename_i y t q1
      first
        | rfl
        | rw [q1]
    · cases hx
  cases q : (KT s).lookup mainGlobals with
  | none =>
    unfold gd at ne
    rw [q] at ne
    exact absurd rfl ne
  | some ob =>
    obtain ⟨oc, od, dt, osl⟩ := ob
    unfold gd at h ne
    rw [q] at h ne
    have g := hin _ _ q
    cases dt with
    | dict es ep =>
      refine ⟨?_, ?_⟩
      · unfold Heap.nsKeys
        rw [g]
        exact fin es.toList h
      · unfold Heap.isNs
        rw [g]
        show es.all _ = true
        rw [← Array.all_toList]
        exact allK es.toList ksl h
    | _ => exact absurd rfl ne
theorem seen_of {s : PySem.W.SharedT} (a2 : s.abs.heap.bltView = bltViewBooted) (a3 : s.abs.heap.accountedOkI (importedModules R.prog.main.body) = true) (a4 : (xlAt (PySem.W.view R.prog [199]) [] s.abs && recOk R.toRowW.records s.abs) = true) (a5 : s.abs.heap.isNs mainGlobals = true) (a6 : s.abs.heap.isNs builtinsNs = true)
    (b1 : s.abs.gens.size = 0) (b3 : ((recsOf (PySem.W.view R.prog [199])).map (·.name)).map (s.abs.heap.shapeAt mainGlobals) = (recsOf (PySem.W.view R.prog [199])).map (fun d => some d.shape)) (b4 : (s.abs.heap.noLimitOk && s.abs.heap.noDigitsOk) = true) (b5 : tablesOk (PySem.W.view R.prog [199]) s.abs.heap = true) (k : s.abs.heap.nsKeys mainGlobals = ksl) (b6 : tabsOk (PySem.W.view R.prog [199]) s.abs = true) :
    seenQ (PySem.W.view R.prog [199]) names (importedModules R.prog.main.body) (fun s => xlAt (PySem.W.view R.prog [199]) [] s && recOk R.toRowW.records s) s.abs = openGood (PySem.W.view R.prog [199]) names := by
  rw [← seenQ_eq]
  unfold openSeen openGood
  have k1 : seen ((recsOf (PySem.W.view R.prog [199])).map (·.name)) (ownsOf (PySem.W.view R.prog [199])) [] { s.abs with gens := #[] } = expectedOf (PySem.W.view R.prog [199]) := by
    unfold seen expectedOf
    rw [c7]
    show Seen.mk (((recsOf (PySem.W.view R.prog [199])).map (·.name)).map (s.abs.heap.shapeAt mainGlobals)) true [] (s.abs.heap.isNs mainGlobals) (s.abs.heap.isNs builtinsNs) (s.abs.heap.noLimitOk && s.abs.heap.noDigitsOk) 0 = _
    rw [b3, a5, a6, b4]
  have k3 : s.abs.heap.keysOk (looseW (PySem.W.view R.prog [199]) names) ((recsOf (PySem.W.view R.prog [199])).map (·.name)) ((litsOf (PySem.W.view R.prog [199])).map (·.1)) ((clssOf (PySem.W.view R.prog [199]) (looseW (PySem.W.view R.prog [199]) names)).map (·.name)) = true := by
    unfold Heap.keysOk
    rw [k]
    exact c9
  have k5 : pinSeenD (PySem.W.view R.prog [199]) (drecsOf (PySem.W.view R.prog [199])) s.abs = pinGoodD (drecsOf (PySem.W.view R.prog [199])) := by rw [c4]; rfl
  have k6 : plainSeenE (PySem.W.view R.prog [199]) (looseW (PySem.W.view R.prog [199]) names) s.abs = plainGoodE (PySem.W.view R.prog [199]) (looseW (PySem.W.view R.prog [199]) names) := by unfold plainSeenE plainGoodE; rw [c1]; rfl
  have k7 : plainSeenD (PySem.W.view R.prog [199]) names s.abs = plainGoodD (PySem.W.view R.prog [199]) names := by unfold plainSeenD plainGoodD; rw [c2]; rfl
  have k8 : wideSeen (PySem.W.view R.prog [199]) s.abs = wideGood (PySem.W.view R.prog [199]) := by unfold wideSeen wideGood; rw [c5, c6]; rfl
  have k9 : clsSeenW (PySem.W.view R.prog [199]) names s.abs = clsGoodW (PySem.W.view R.prog [199]) names := by unfold clsSeenW clsGoodW; rw [c3]; rfl
  rw [k1, k3, k5, k6, k7, k8, k9, a2, a3, a5, a6, b5, b6]
  have k10 : (fun s => xlAt (PySem.W.view R.prog [199]) [] s && recOk R.toRowW.records s) s.abs = true := a4
  rw [k10, if_pos rfl, b1]
  rfl
theorem looks_of {w : World} {s : PySem.W.SharedT} (a1 : staticsOk (importedModules R.prog.main.body) (boot_heap w.params) s.abs.heap = true) (a5 : s.abs.heap.isNs mainGlobals = true) (b0 : gensDone s.abs = true)
    (b2 : (laidNames.all fun x => decide (s.abs.heap.nsMap mainGlobals x = (boot_heap w.params).nsMap mainGlobals x)) = true) (k : s.abs.heap.nsKeys mainGlobals = ksl) : looksF R.prog (boot_heap w.params) s.abs = true := by
  have k1 : namesBound R.prog s.abs.heap = true := by
    unfold namesBound
    rw [a5, k, Bool.true_and]
    exact c8
  have k2 : laidKept (boot_heap w.params) s.abs.heap = true := by
    unfold laidKept
    rw [boot_ns, a5, b2]
    rfl
  unfold looksF
  rw [a1, k1, b0, k2]
  rfl
theorem map2 {α β γ : Type} {o : Option α} {f : α → β} {g : α → γ} {x : β} {y : γ} (h : o.map (fun s => (f s, g s)) = some (x, y)) : o.map f = some x ∧ o.map g = some y := by
  cases o with
  | none => cases h
  | some s =>
    have e := Prod.mk.inj (Option.some.inj h)
    exact ⟨congrArg some e.1, congrArg some e.2⟩
theorem lift {M : Nat} {p : Program} {w : World} {os : OsState} {α : Type} {F : PySem.W.SharedT → α} {V : α} (h : (L2.HX.endX (stepQ (denQ tabQ) p w) M p w os).map F = some V) : (endF (stepQ (denQ tabQ) p w) M p w os).map F = some V := by
  cases e : L2.HX.endX (stepQ (denQ tabQ) p w) M p w os with
  | none => rw [e] at h; cases h
  | some s =>
    rw [L2.HX.endX_ok e]
    rw [e] at h
    exact h
theorem run_all {w : World} {o : Option PySem.W.SharedT} (ha : o.map (fun s => (staticsOk (importedModules R.prog.main.body) (boot_heap w.params) s.abs.heap, s.abs.heap.bltView, s.abs.heap.accountedOkI (importedModules R.prog.main.body), (xlAt (PySem.W.view R.prog [199]) [] s.abs && recOk R.toRowW.records s.abs), s.abs.heap.isNs builtinsNs)) = some (true, bltViewBooted, true, true, true)) (hb : o.map (fun s => ((gensDone s.abs, s.abs.gens.size), (laidNames.all fun x => decide (s.abs.heap.nsMap mainGlobals x = (boot_heap w.params).nsMap mainGlobals x)), (s.abs.heap.noLimitOk && s.abs.heap.noDigitsOk), tablesOk (PySem.W.view R.prog [199]) s.abs.heap)) = some ((true, 0), true, true, true)) (hc : o.map (fun s => ((gd (KT s)).map keyO, tabsOk (PySem.W.view R.prog [199]) s.abs)) = some (ksl.map some, true)) (hd : o.map (fun s => vA fsA (KT s)) = some (fsA.map Df.v, true)) (he : o.map (fun s => vA fsB (KT s)) = some (fsB.map Df.v, true)) (hf : o.map (fun s => exA.all fun f => f (KT s)) = some true) (hg : o.map (fun s => ((exB.all fun f => f (KT s)), (ssl.map fun p => strO (KT s) p.1), ((recsOf (PySem.W.view R.prog [199])).map (·.name)).map (s.abs.heap.shapeAt mainGlobals))) = some (true, (ssl.map fun p => some p.2), (recsOf (PySem.W.view R.prog [199])).map (fun d => some d.shape))) :
    o.map (fun s => (looksF R.prog (boot_heap w.params) s.abs, seenQ (PySem.W.view R.prog [199]) names (importedModules R.prog.main.body) (fun s => xlAt (PySem.W.view R.prog [199]) [] s && recOk R.toRowW.records s) s.abs, ob s)) = some (true, openGood (PySem.W.view R.prog [199]) names, hk.val w) := by
  cases o with
  | none => cases ha
  | some s =>
    simp only [Option.map_some, Option.some.injEq, Prod.mk.injEq] at ha hb hc hf hg
    have hd' : vA fsA (KT s) = (fsA.map Df.v, true) := Option.some.inj hd
    have he' : vA fsB (KT s) = (fsB.map Df.v, true) := Option.some.inj he
    obtain ⟨a1, a2, a3, a4, a6⟩ := ha
    obtain ⟨⟨b0, b1⟩, b2, b4, b5⟩ := hb
    obtain ⟨c1', c3'⟩ := hc
    obtain ⟨hg, c2', b3⟩ := hg
    have hx : wn.ex (KT s) = true := by
      show (exl.all fun f => f (KT s)) = true
      rw [ex_ab, List.all_append, hf, hg]
      rfl
    obtain ⟨k, a5⟩ := keys_of c1'
    have o1 : ob s = hk.val w := by
      show (((fs.map fun d => d.see (KT s), []), ((gd (KT s)).map keyO, ssl.map fun p => strO (KT s) p.1)), ((fs.all fun d => d.b (KT s)) && (wn.ex (KT s) && true))) = (((fs.map Df.v, []), (ksl.map some, ssl.map fun p => some p.2)), true)
      have d1 : (fsA.map fun d => d.see (KT s)) = fsA.map Df.v := congrArg Prod.fst hd'
      have d2 : (fsA.all fun d => d.b (KT s)) = true := congrArg Prod.snd hd'
      have e1 : (fsB.map fun d => d.see (KT s)) = fsB.map Df.v := congrArg Prod.fst he'
      have e2 : (fsB.all fun d => d.b (KT s)) = true := congrArg Prod.snd he'
      rw [fs_ab, List.map_append, List.map_append, List.all_append, d1, d2, e1, e2, c1', c2', hx]
      rfl
    exact congrArg some (Prod.ext (looks_of a1 a5 b0 b2 k) (Prod.ext (seen_of a2 a3 a4 a5 a6 b1 b3 b4 b5 k c3') o1))
theorem xa0 (w : World) (os : OsState) : (L2.HX.endX (stepQ (denQ tabQ) R.prog (w.withFollow "special-get-raises" false)) 16000 R.prog (w.withFollow "special-get-raises" false) os).map (fun s => ((staticsOk (importedModules R.prog.main.body) (boot_heap (w.withFollow "special-get-raises" false).params) s.abs.heap, s.abs.heap.bltView, s.abs.heap.accountedOkI (importedModules R.prog.main.body), (xlAt (PySem.W.view R.prog [199]) [] s.abs && recOk R.toRowW.records s.abs), s.abs.heap.isNs builtinsNs), ((gensDone s.abs, s.abs.gens.size), (laidNames.all fun x => decide (s.abs.heap.nsMap mainGlobals x = (boot_heap (w.withFollow "special-get-raises" false).params).nsMap mainGlobals x)), (s.abs.heap.noLimitOk && s.abs.heap.noDigitsOk), tablesOk (PySem.W.view R.prog [199]) s.abs.heap))) = some ((true, bltViewBooted, true, true, true), ((true, 0), true, true, true)) := by
  kernel_rfl
theorem xb0 (w : World) (os : OsState) : (L2.HX.endX (stepQ (denQ tabQ) R.prog (w.withFollow "special-get-raises" false)) 16000 R.prog (w.withFollow "special-get-raises" false) os).map (fun s => (((gd (KT s)).map keyO, tabsOk (PySem.W.view R.prog [199]) s.abs), vA fsA (KT s))) = some ((ksl.map some, true), (fsA.map Df.v, true)) := by
  kernel_rfl
theorem xc0 (w : World) (os : OsState) : (L2.HX.endX (stepQ (denQ tabQ) R.prog (w.withFollow "special-get-raises" false)) 16000 R.prog (w.withFollow "special-get-raises" false) os).map (fun s => (vA fsB (KT s), exA.all fun f => f (KT s), ((exB.all fun f => f (KT s)), (ssl.map fun p => strO (KT s) p.1), ((recsOf (PySem.W.view R.prog [199])).map (·.name)).map (s.abs.heap.shapeAt mainGlobals)))) = some ((fsB.map Df.v, true), true, (true, (ssl.map fun p => some p.2), (recsOf (PySem.W.view R.prog [199])).map (fun d => some d.shape))) := by
  kernel_rfl
theorem run0 (w : World) : HandSHeadRun.RunEq R (PySem.W.view R.prog [199]) hk ob 16000 names (w.withFollow "special-get-raises" false) := fun os => lift (by
  obtain ⟨ha, hb⟩ := map2 (xa0 w os)
  obtain ⟨hc, hd⟩ := map2 (xb0 w os)
  obtain ⟨he, hfg⟩ := map2 (xc0 w os)
  obtain ⟨hf, hg⟩ := map2 hfg
  exact run_all (w := (w.withFollow "special-get-raises" false)) ha hb hc hd he hf hg)
theorem xa1 (w : World) (os : OsState) : (L2.HX.endX (stepQ (denQ tabQ) R.prog (w.withFollow "special-get-raises" true)) 16000 R.prog (w.withFollow "special-get-raises" true) os).map (fun s => ((staticsOk (importedModules R.prog.main.body) (boot_heap (w.withFollow "special-get-raises" true).params) s.abs.heap, s.abs.heap.bltView, s.abs.heap.accountedOkI (importedModules R.prog.main.body), (xlAt (PySem.W.view R.prog [199]) [] s.abs && recOk R.toRowW.records s.abs), s.abs.heap.isNs builtinsNs), ((gensDone s.abs, s.abs.gens.size), (laidNames.all fun x => decide (s.abs.heap.nsMap mainGlobals x = (boot_heap (w.withFollow "special-get-raises" true).params).nsMap mainGlobals x)), (s.abs.heap.noLimitOk && s.abs.heap.noDigitsOk), tablesOk (PySem.W.view R.prog [199]) s.abs.heap))) = some ((true, bltViewBooted, true, true, true), ((true, 0), true, true, true)) := by
  kernel_rfl
theorem xb1 (w : World) (os : OsState) : (L2.HX.endX (stepQ (denQ tabQ) R.prog (w.withFollow "special-get-raises" true)) 16000 R.prog (w.withFollow "special-get-raises" true) os).map (fun s => (((gd (KT s)).map keyO, tabsOk (PySem.W.view R.prog [199]) s.abs), vA fsA (KT s))) = some ((ksl.map some, true), (fsA.map Df.v, true)) := by
  kernel_rfl
theorem xc1 (w : World) (os : OsState) : (L2.HX.endX (stepQ (denQ tabQ) R.prog (w.withFollow "special-get-raises" true)) 16000 R.prog (w.withFollow "special-get-raises" true) os).map (fun s => (vA fsB (KT s), exA.all fun f => f (KT s), ((exB.all fun f => f (KT s)), (ssl.map fun p => strO (KT s) p.1), ((recsOf (PySem.W.view R.prog [199])).map (·.name)).map (s.abs.heap.shapeAt mainGlobals)))) = some ((fsB.map Df.v, true), true, (true, (ssl.map fun p => some p.2), (recsOf (PySem.W.view R.prog [199])).map (fun d => some d.shape))) := by
  kernel_rfl
theorem run1 (w : World) : HandSHeadRun.RunEq R (PySem.W.view R.prog [199]) hk ob 16000 names (w.withFollow "special-get-raises" true) := fun os => lift (by
  obtain ⟨ha, hb⟩ := map2 (xa1 w os)
  obtain ⟨hc, hd⟩ := map2 (xb1 w os)
  obtain ⟨he, hfg⟩ := map2 (xc1 w os)
  obtain ⟨hf, hg⟩ := map2 hfg
  exact run_all (w := (w.withFollow "special-get-raises" true)) ha hb hc hd he hf hg)
theorem run (w : World) : HandSHeadRun.RunEq R (PySem.W.view R.prog [199]) hk ob 16000 names w :=
  byRow2 "special-get-raises" (P := fun w => HandSHeadRun.RunEq R (PySem.W.view R.prog [199]) hk ob 16000 names w) run0 run1 w
end L2.HE6

set_option Elab.async false
set_option maxRecDepth 100000
set_option maxHeartbeats 4000000
/-! An own exception class whose __init__ stores its parameters, called with positional values or by keywords. -/
namespace XC
open PySem PySem.W PySem.Calls
section
variable {prog : Program} {w : World} {A : Around} {E : Value → Shared → Prop} {R : Result → Shared → Prop}
  {h : Heap} {g : Array GenState} {d : Drawn} {t : Nat} {os : OsState} {nm q : Str} {C N : Addr}
  {bs bm bmB : List Value} {hdct : Bool} {sn : List Str} {sub : List Value} {ab : Bool} {col : Option Bool}
  {dd : Option Addr} {k0 k1 k2 k3 k5 : Option Value} {B newId initId : String} {rest : List Value}
  {kw : List (Str × Value)}

theorem newChecked (F : ExcBaseFacts B newId initId bmB)
    (hT : ∀ X : String, bm.contains (.type X) = bmB.contains (.type X)) {Q : Unit → Shared → Prop}
    (hC : h.get? C = some (excClassObj nm q C N bs bm hdct sn sub ab col dd k0 k1 k2 k3 k5 newId))
    (hq : Q () ⟨h, g, d, t, os⟩) :
    wpAny (model prog w) A (checkBuiltinCall newId ⟨.ref C :: rest, kw⟩) Q E ⟨h, g, d, t, os⟩ := by
  have inB : (Value.ref C :: bm).contains (.type B) = true := by
    rw [List.contains_cons, hT, F.hasB, Bool.or_true]
  have hns := F.noStar
  simp only [checkBuiltinCall, F.newKind, F.newSplit, F.newRow]
  repeat (first
    | refine wpAny_loadPart_at hC ?_
    | (refine wpAny_isSubtype_exc hC ?_; rw [inB])
    | refine wpAny_staticBase_exc hC ?_
    | refine wpAny_madeBy_exc hC ?_
    | simp only [bne_self_eq_false, Bool.false_eq_true, if_false]
    | wp_step)
  exact hq

theorem newMade (F : ExcBaseFacts B newId initId bmB)
    (hT : ∀ X : String, bm.contains (.type X) = bmB.contains (.type X))
    (hC : h.get? C = some (excClassObj nm q C N bs bm hdct sn sub ab col dd k0 k1 k2 k3 k5 newId))
    (hq : R (.ok (.ret (.ref (h.objs.size + 1))))
      ⟨(h.push (kdv_tup rest)).push (HandSPX.excO C h.objs.size), g, d, t, os⟩)
    (hrest : rest.length ≤ sizeLine) :
    codeAny (model prog w) A (.builtin newId ⟨.ref C :: rest, kw⟩) R ⟨h, g, d, t, os⟩ := by
  have hends := F.ends
  have inB : (Value.ref C :: bm).contains (.type B) = true := by
    rw [List.contains_cons, hT, F.hasB, Bool.or_true]
  have noA : (Value.ref C :: bm).contains (.type "AttributeError") = false := by
    rw [List.contains_cons, hT, F.noAttr]
    rfl
  have noN : (Value.ref C :: bm).contains (.type "NameError") = false := by
    rw [List.contains_cons, hT, F.noName]
    rfl
  refine codeAny_builtinAt F.entry ?_
  unfold Builtin.«BaseException.__new__»
  refine PySem.wpAt_bind ?_
  show wpAt _ _ _ (stack >>= _) _ _ _
  refine PySem.wpAt_bind (PySem.wpAt_stack fun p below => PySem.wpAt_of_wpAny ?_)
  wp_walk
  refine PySem.wpAt_of_wpAny ?_
  rw [F.owner]
  repeat (first
    | with_reducible refine wpAny_madeHere_exc F.canon hC ?_
    | with_reducible refine wpAny_loadPart_at hC ?_
    | (with_reducible refine wpAny_isSubtype_exc hC ?_; first | rw [inB] | rw [noA] | rw [noN])
    | wp_step)
  show R _ _
  rw [Heap.size_push]
  exact hq

theorem typeCalled (F : ExcBaseFacts B newId initId bmB)
    (hT : ∀ X : String, bm.contains (.type X) = bmB.contains (.type X)) {fI : Addr} {Q : Fin → Shared → Prop}
    (hC : h.get? C = some (excClassObj nm q C N bs bm hdct sn sub ab col dd k0 k1 k2 k3 k5 newId))
    (hi : Looks (model prog w) h (typeLookup (.ref C) "__init__") (some (.ref fI)))
    (hb : ∀ self, Looks (model prog w) h (bindSpecial (.ref fI) self) (.ref fI, [self]))
    (hrest : rest.length ≤ sizeLine)
    (hq : codeAny (model prog w) A (.call (.ref fI) ⟨.ref (h.objs.size + 1) :: rest, kw⟩)
      (fun r s' => match r with
        | .ok (.ret v) => v = .none ∧ Q (.done (.ret (.ref (h.objs.size + 1)))) s'
        | .ok _ => False
        | .error e => E e s')
      ⟨(h.push (kdv_tup rest)).push (HandSPX.excO C h.objs.size), g, d, t, os⟩) :
    wpAny (model prog w) A (Builtin.«type.__call__» ⟨.ref C :: rest, kw⟩) Q E ⟨h, g, d, t, os⟩ := by
  repeat (first
    | with_reducible refine wpAny_loadPart_at hC ?_
    | with_reducible refine wpAny_madeBy_exc hC ?_
    | wp_step)
  refine codeAny_call_builtin_code (Code.quiet_builtin _ F.quiet) (newChecked F hT hC ?_)
  refine newMade F hT hC ?_ hrest
  show wpAny _ _ _ _ _ _
  have k : ∀ b o, h.get? b = some o →
      ((h.push (kdv_tup rest)).push (HandSPX.excO C h.objs.size)).get? b = some o :=
    fun b o e => Heap.get?_push_of_some _ (Heap.get?_push_of_some _ e)
  have hC2 := k _ _ hC
  have there : ((h.push (kdv_tup rest)).push (HandSPX.excO C h.objs.size)).get? (h.objs.size + 1) =
      some (HandSPX.excO C h.objs.size) := by heap_get
  have selfIn : (Value.ref C :: bm).contains (.ref C) = true := by simp
  have i1 := hi.keeps k
  have b1 := (hb (.ref (h.objs.size + 1))).keeps k
  unfold isInstance
  repeat (first
    | with_reducible refine wpAny_loadPart_at there ?_
    | (with_reducible refine wpAny_isSubtype_exc hC2 ?_; rw [selfIn])
    | wp_step)
  show wpAny _ _ (typeLookup (.ref C) _) _ _ _
  refine i1.at ?_
  refine wpAny_holding (wpAny_bind (b1.at ?_))
  refine wpAny_bind (wpAny_call (codeAny_mono hq fun r s' z => ?_))
  rcases r with e | (v | _ | _ | _) <;> first | exact z | exact z.elim | skip
  obtain ⟨rfl, z⟩ := z
  first
    | exact wpAny_pure (wpAny_pure z)
    | (wp_walk; exact z)

theorem typeChecked {M : Model} {Q : Unit → Shared → Prop}
    (hC : h.get? C = some (excClassObj nm q C N bs bm hdct sn sub ab col dd k0 k1 k2 k3 k5 newId))
    (hq : Q () ⟨h, g, d, t, os⟩) :
    wpAny M A (checkBuiltinCall "type.__call__" ⟨.ref C :: rest, kw⟩) Q E ⟨h, g, d, t, os⟩ := by
  have f3 := tc_sub
  have hty : (⟨h, g, d, t, os⟩ : Shared).TypeIs (.ref C) "type" := ⟨_, hC, rfl⟩
  simp only [checkBuiltinCall, tc_kind, tc_split]
  repeat (any_goals (first
    | assumption
    | with_reducible refine wpAny_loadPart_at hC ?_
    | with_reducible refine wpAny_onRaise ?_
    | with_reducible refine wpAny_map ?_
    | wp_step))

theorem called (F : ExcBaseFacts B newId initId bmB)
    (hT : ∀ X : String, bm.contains (.type X) = bmB.contains (.type X)) {fI : Addr}
    (hC : h.get? C = some (excClassObj nm q C N bs bm hdct sn sub ab col dd k0 k1 k2 k3 k5 newId))
    (hi : Looks (model prog w) h (typeLookup (.ref C) "__init__") (some (.ref fI)))
    (hb : ∀ self, Looks (model prog w) h (bindSpecial (.ref fI) self) (.ref fI, [self]))
    (hrest : rest.length ≤ sizeLine)
    (hq : codeAny (model prog w) (A.under (.builtin "type.__call__" ⟨.ref C :: rest, kw⟩))
      (.call (.ref fI) ⟨.ref (h.objs.size + 1) :: rest, kw⟩) (InitBack (h.objs.size + 1) R)
      ⟨(h.push (kdv_tup rest)).push (HandSPX.excO C h.objs.size), g, d, t, os⟩) :
    codeAny (model prog w) A (.call (.ref C) ⟨rest, kw⟩) R ⟨h, g, d, t, os⟩ := by
  have f1 := tc_lookup
  have f2 := tc_bind (.ref C)
  have hty : (⟨h, g, d, t, os⟩ : Shared).TypeIs (.ref C) "type" := ⟨_, hC, rfl⟩
  refine codeAny_of_tree ?_
  show wpAny _ _ (callAny (.ref C) _) _ _ _
  repeat (any_goals (first
    | assumption
    | with_reducible refine wpAny_loadPart_at hC ?_
    | wp_step))
  refine ⟨rfl, ?_⟩
  refine codeAny_call_builtin_at (Code.quiet_builtin _ (by decide +kernel)) entry_typeCall
    (typeChecked hC (typeCalled F hT hC hi hb hrest ?_))
  refine codeAny_mono hq fun r s' z => ?_
  rcases r with e | (v | _ | _ | _) <;> exact z
end
end XC

set_option Elab.async false
set_option maxRecDepth 100000
set_option maxHeartbeats 4000000
namespace XC
open PySem PySem.W PySem.Calls PyProof.Rows
open Builtin.ObjectAttr
/-- what the written part says of an own exception class at C, over the built-in class B -/
structure EC (K : Frag) (C : Addr) (B newId initId : String) (bmB : List Value) : Prop where
  base : ExcBaseFacts B newId initId bmB
  store : StoreFacts B bmB "object.__setattr__" "object"
  ini : excInitIn K C bmB newId = true
  over : excOver K C bmB = true
  sa : findIn K (.ref C) "__setattr__" = some (some (.builtin "object.__setattr__"))
  ga : findIn K (.ref C) "__getattribute__" = some (some (.builtin "BaseException.__getattribute__"))
  gg : findIn K (.ref C) "__getattr__" = some none
  kC : keepIn K (.ref C) = true
  exC : subIn K (.ref C) (.type "BaseException") = some true
  hd : hasDictIn K C = true
section
variable {prog : Program} {w : World} {A : Around} {E : Value → Shared → Prop} {R : Result → Shared → Prop}
  {K : Frag} {C : Addr} {B newId initId : String} {bmB : List Value} {s : Shared}
  {hp : Heap} {g : Array GenState} {d : Drawn} {t : Nat} {os : OsState}

/-- the first field of an exception without a dict -/
theorem storeNew (T : EC K C B newId initId bmB) {name : Str} {tk : Tok} {v : Value} {x : Addr} {fv : Array Value}
    (X : K.In hp) (hx : hp.get? x = some { cls := .ref C, data := .fields fv })
    (ha : findIn K (.ref C) name = some none)
    (hq : ∀ h' tk' dx, (∀ b o, b ≠ x → hp.get? b = some o → h'.get? b = some o) → hp.objs.size ≤ dx → dx ≠ x →
      h'.get? x = some { cls := .ref C, dict := some dx, data := .fields fv } →
      h'.Ns1 dx (fun y => if y = name then some v else none) → R (.ok (.ret .none)) ⟨h', g, d, tk', os⟩) :
    codeAny (model prog w) A (.call (.builtin "object.__setattr__") ⟨[.ref x, .str name tk, v], []⟩) R ⟨hp, g, d, t, os⟩ := by
  have I : InstAt hp x { cls := .ref C, data := .fields fv } C none := ⟨hx, rfl, rfl, trivial⟩
  have hxs : x ≠ hp.objs.size := Nat.ne_of_lt (Heap.lt_size hx)
  obtain ⟨cd, hcd, hh⟩ := any_some T.hd
  have hcls : Looks (model prog w) hp (classData C) cd := looks_clsIn X hcd
  refine osa_openX (r := none) T.store X I T.over (by unfold takerIn; rw [ha]; rfl) fun b => ?_
  show wpAny _ _ (storeInOwnDict (.ref x) (.ref C) (.str name tk) name v b) _ _ _
  obtain ⟨nm, bs, mro, ns, qn, hd, sn, sb, ab, col, del⟩ := cd
  dsimp only at hh
  subst hh
  unfold storeInOwnDict ownDictForStores
  repeat (first
    | with_reducible refine HandSPX.store_in_new ?_ ?_
    | with_reducible refine wpAny_loadPart_at hx ?_
    | with_reducible refine hcls.at ?_
    | wp_step)
  · exact ⟨_, #[], _, (Heap.get?_update_ne _ _ _ _ hxs.symm).trans (Heap.get?_push_at rfl rfl), rfl,
      fun e he => absurd he (by simp), fun _ => rfl⟩
  · intro h' tk' hn' hs
    have hx1 : (hp.push { cls := .type "dict", data := .dict #[] }).get? x = some { cls := .ref C, data := .fields fv } :=
      Heap.get?_push_of_some _ hx
    refine hq h' tk' hp.objs.size (fun b o hb ho => ?_) (Nat.le_refl _) hxs.symm ?_ hn'
    · refine (hs.2 b (Nat.ne_of_lt (Heap.lt_size ho))).trans ?_
      exact (Heap.get?_update_ne _ _ _ _ hb).trans (Heap.get?_push_of_some _ ho)
    · refine (hs.2 x hxs).trans ?_
      exact Heap.get?_update_self _ hx1 rfl

/-- a further field -/
theorem storeMore (T : EC K C B newId initId bmB) {name : Str} {tk : Tok} {v : Value} {x dx : Addr} {fv : Array Value}
    {m0 : Str → Option Value} {nl : List Str}
    (X : K.In hp) (hx : hp.get? x = some { cls := .ref C, dict := some dx, data := .fields fv }) (hns : hp.Ns1 dx m0)
    (hw : Within m0 nl) (hz : nl.length ≤ 1000) (ha : findIn K (.ref C) name = some none)
    (hq : ∀ h' tk', (∀ b o, b ≠ dx → hp.get? b = some o → h'.get? b = some o) →
      h'.Ns1 dx (fun y => if y = name then some v else m0 y) → R (.ok (.ret .none)) ⟨h', g, d, tk', os⟩) :
    codeAny (model prog w) A (.call (.builtin "object.__setattr__") ⟨[.ref x, .str name tk, v], []⟩) R ⟨hp, g, d, t, os⟩ := by
  obtain ⟨oD, esD, epD, hoD, hdD, _⟩ := hns.count hw
  have I : InstAt hp x { cls := .ref C, dict := some dx, data := .fields fv } C (some oD) := ⟨hx, rfl, rfl, hoD⟩
  obtain ⟨cd, hcd, hh⟩ := any_some T.hd
  have hcls : Looks (model prog w) hp (classData C) cd := looks_clsIn X hcd
  refine osa_openX (r := none) T.store X I T.over (by unfold takerIn; rw [ha]; rfl) fun b => ?_
  show wpAny _ _ (storeInOwnDict (.ref x) (.ref C) (.str name tk) name v b) _ _ _
  obtain ⟨nm, bs, mro, ns, qn, hd, sn, sb, ab, col, del⟩ := cd
  dsimp only at hh
  subst hh
  unfold storeInOwnDict ownDictForStores
  repeat (first
    | with_reducible refine OEX.store_in_old hns hw hz ?_
    | with_reducible refine wpAny_loadPart_at hx ?_
    | with_reducible refine hcls.at ?_
    | wp_step)
  intro h' tk' hn' hs
  exact hq h' tk' (fun b o hb ho => (hs.2 b hb).trans ho) hn'

/-- the call of the class, down to its __init__ -/
theorem madeBy {fI : Addr} {rest : List Value} {kw : List (Str × Value)} (T : EC K C B newId initId bmB) (X : K.In s.heap)
    (iC : findIn K (.ref C) "__init__" = some (some (.ref fI))) (tC : typeIn K (.ref fI) = some (.type "function"))
    (hrest : rest.length ≤ sizeLine)
    (hq : codeAny (model prog w) (A.under (.builtin "type.__call__" ⟨.ref C :: rest, kw⟩))
      (.call (.ref fI) ⟨.ref (s.heap.objs.size + 1) :: rest, kw⟩) (InitBack (s.heap.objs.size + 1) R)
      { s with heap := (s.heap.push (kdv_tup rest)).push (HandSPX.excO C s.heap.objs.size) }) :
    codeAny (model prog w) A (.call (.ref C) ⟨rest, kw⟩) R s := by
  obtain ⟨hp, g, dr, tk, os⟩ := s
  obtain ⟨nm, N, qn, bs, bm, hdct, sn, sub, ab, col, dd, k0, k1, k2, k3, k5, hC, hT⟩ := excInit_of X T.ini
  exact called T.base hT hC (looks_findIn X iC) (fun self => bind_fn X self tC) hrest hq

theorem noneOf {a : Addr} (X : K.In hp) (h : hp.objs.size ≤ a) : K.lookup a = none := by
  cases e : K.lookup a with
  | none => rfl
  | some o => exact absurd (Nat.lt_of_lt_of_le (Heap.lt_size (X _ _ e)) h) (Nat.lt_irrefl _)
end

/-- an exception of the class at C that has been made: at e, its fields m in its own dict at d -/
structure Made (h h' : Heap) (e C d : Addr) (m : Str → Option Value) : Prop where
  keep : ∀ b o, h.get? b = some o → h'.get? b = some o
  new : h.objs.size ≤ e
  obj : ∃ t1 : Addr, h'.get? e = some { cls := .ref C, dict := some d, data := .fields #[.ref t1, .none, .none, .none, .bool false, .none] }
  dbig : h.objs.size ≤ d
  dne : d ≠ e
  ns : h'.Ns1 d m

theorem ldLoc {M : Model} {s : Shared} {name : Str} {scope : Scope} {L a : Addr} {cd : Value} {m : Str → Option Value} {x : Str}
    {pos : Pos} {v : Value} {Q : Value → Shared → Prop} {A : Around} {E : Value → Shared → Prop}
    (hn : s.heap.Ns L m) (hv : m x = some v) (h : Q v s) (hk : scope.kind = .function := by rfl)
    (hl : (envOfC name scope L a cd).kindOf x = some .local := by rfl)
    (hd : (x == ("__debug__" : Str)) = false := by decide) :
    wpAny M A (eval (.Name x pos) (envOfC name scope L a cd)) Q E s :=
  wpAny_Name (wpAny_loadName_local hk hl hn hv h) hd
def argsGv (p0 p1 : Pos) : Arguments := { posonlyargs := [], args := [{ arg := "self", annotation := none, pos := p0 }, { arg := "given", annotation := none, pos := p1 }], vararg := none, kwonlyargs := [], kw_defaults := [], kwarg := none, defaults := [] }
def bodyGv (q00 q01 q02 q03 : Pos) : List Stmt := [.Assign [.Attribute (.Name "self" q00) "given" q01] (.Name "given" q02) q03]
def scopeGv : Scope := { kind := .function, names := [(PySem.Str.ofString "self", .local), (PySem.Str.ofString "given", .local)], isGenerator := false, isCoroutine := false, more := [] }
/-- the class at C, its __init__ at fI -/
structure ClsGv (K : Frag) (C fI : Addr) (B newId initId : String) (bmB : List Value) : Prop extends EC K C B newId initId bmB where
  iC : findIn K (.ref C) "__init__" = some (some (.ref fI))
  tC : typeIn K (.ref fI) = some (.type "function")
  n0 : findIn K (.ref C) "given" = some none
  fn : ∃ (oc : Value) (od : Option Addr) (doc pm kV : Value) (an : Option Addr) (cdv ct : Value) (osl : Array (Option Value)) (qual : Str) (p0 p1 q00 q01 q02 q03 : Pos),
    K.lookup fI = some ⟨oc, od, .func (fnOf "__init__" qual (argsGv p0 p1) (bodyGv q00 q01 q02 q03) scopeGv .none kV doc pm an cdv ct), osl⟩ ∧ codeIn K cdv qual = true
theorem initGvP {prog : Program} {w : World} {A : Around} {R : Result → Shared → Prop} {s : Shared} {K : Frag} {C fI x t0 : Addr} {B newId initId : String} {bmB : List Value} {v0 : Value}
    (T : ClsGv K C fI B newId initId bmB) (X : K.In s.heap) (hlim : s.heap.NoLimit) (hx : s.heap.get? x = some (HandSPX.excO C t0)) (hnx : K.lookup x = none) (hroom : A.depth < recursionLimit)
    (hq : ∀ h' tk dx, (∀ b o, b ≠ x → s.heap.get? b = some o → h'.get? b = some o) → h'.get? x = some { cls := .ref C, dict := some dx, data := .fields #[.ref t0, .none, .none, .none, .bool false, .none] } → s.heap.objs.size ≤ dx → dx ≠ x → h'.Ns1 dx (fun (y : Str) => if y = "given" then some v0 else none) → R (.ok (.ret .none)) { s with heap := h', toks := tk }) :
    codeAny (model prog w) A (.call (.ref fI) ⟨[.ref x, v0], []⟩) R s := by
  obtain ⟨oc, od, doc, pm, kV, an, cdv, ct, osl, qual, p0, p1, q00, q01, q02, q03, ho, hcd⟩ := T.fn
  refine Att.call_fn (binds := [("self", .ref x), ("given", v0)]) X hlim ho hcd hroom (PySem.BindsTo.of_eq (by first | rfl | with_unfolding_all rfl)) (by first | rfl | decide | with_unfolding_all rfl) (fun s1 IC => ?_) rfl rfl rfl
  obtain ⟨h1, tk1, rfl⟩ := IC.toInCall.same
  have k : ∀ b o, s.heap.get? b = some o → h1.get? b = some o := IC.toInCall.keep
  have hn0 := IC.toInCall.ns
  have hxL : s.heap.objs.size ≠ x := Nat.ne_of_gt (Heap.lt_size hx)
  have X0 : K.In h1 := X.keeps k
  have hx0 := k _ _ hx
  show wpAny _ _ (execs _ _) _ _ _
  refine wpAny_execs_cons (plainObj_wpAny_Assign_Attribute ?_)
  refine ldLoc (v := v0) hn0 (by first | rfl | with_unfolding_all rfl | kernel_rfl) (ldLoc (v := .ref x) hn0 (by first | rfl | with_unfolding_all rfl | kernel_rfl) ?_)
  refine set_plain X0 (ox := HandSPX.excO C t0) (od := none) ⟨hx0, rfl, rfl, trivial⟩ T.sa ?_
  refine storeNew T.toEC X0 hx0 T.n0 (fun h2 tk2 dx k2 dn dne hx1 ns1 => ?_)
  have X1 : K.In h2 := fun a o e => k2 a o (fun z => by rw [z, hnx] at e; cases e) (X0 a o e)
  have hn1 : h2.Ns s.heap.objs.size _ := let ⟨o, es, ep, e, r⟩ := hn0; ⟨o, es, ep, k2 _ _ hxL e, r⟩
  show wpAny _ _ (execs _ _) _ _ _
  exact wpAny_execs_nil (hq h2 tk2 dx (fun b o hb e => k2 b o hb (k b o e)) hx1 (Nat.le_of_lt (Nat.lt_of_lt_of_le hn0.lt dn)) dne ns1)
theorem madeGvP {prog : Program} {w : World} {A : Around} {R : Result → Shared → Prop} {s : Shared} {K : Frag} {C fI : Addr} {B newId initId : String} {bmB : List Value} {v0 : Value}
    (T : ClsGv K C fI B newId initId bmB) (X : K.In s.heap) (hlim : s.heap.NoLimit) (hroom : A.depth + 1 < recursionLimit)
    (hq : ∀ h' tk e d, Made s.heap h' e C d (fun (y : Str) => if y = "given" then some v0 else none) → R (.ok (.ret (.ref e))) { s with heap := h', toks := tk }) :
    codeAny (model prog w) A (.call (.ref C) ⟨[v0], []⟩) R s := by
  obtain ⟨hp, g, dr, tk, os⟩ := s
  have k : ∀ b o, hp.get? b = some o → ((hp.push (kdv_tup [v0])).push (HandSPX.excO C hp.objs.size)).get? b = some o := fun b o e => Heap.get?_push_of_some _ (Heap.get?_push_of_some _ e)
  have hget : ((hp.push (kdv_tup [v0])).push (HandSPX.excO C hp.objs.size)).get? (hp.objs.size + 1) = some (HandSPX.excO C hp.objs.size) := by heap_get
  refine madeBy T.toEC X T.iC T.tC (by rw [sizeLine_eq]; simp) ?_
  refine initGvP (s := ⟨(hp.push (kdv_tup [v0])).push (HandSPX.excO C hp.objs.size), g, dr, tk, os⟩) T (X.keeps k) (hlim.keeps k) hget (noneOf X (Nat.le_succ _)) ?_ (fun h' tk' dx k' hx dn dne hns => ?_)
  · show A.depth + 1 < recursionLimit
    exact hroom
  · have old : ∀ b o, hp.get? b = some o → h'.get? b = some o := fun b o e => k' b o (Nat.ne_of_lt (Nat.lt_succ_of_lt (Heap.lt_size e))) (k b o e)
    have z : hp.objs.size ≤ dx := by
      have q := dn
      simp only [Heap.size_push] at q
      omega
    exact ⟨rfl, hq h' tk' (hp.objs.size + 1) dx ⟨old, Nat.le_succ _, ⟨_, hx⟩, z, dne, hns⟩⟩
theorem initGvK {prog : Program} {w : World} {A : Around} {R : Result → Shared → Prop} {s : Shared} {K : Frag} {C fI x t0 : Addr} {B newId initId : String} {bmB : List Value} {v0 : Value}
    (T : ClsGv K C fI B newId initId bmB) (X : K.In s.heap) (hlim : s.heap.NoLimit) (hx : s.heap.get? x = some (HandSPX.excO C t0)) (hnx : K.lookup x = none) (hroom : A.depth < recursionLimit)
    (hq : ∀ h' tk dx, (∀ b o, b ≠ x → s.heap.get? b = some o → h'.get? b = some o) → h'.get? x = some { cls := .ref C, dict := some dx, data := .fields #[.ref t0, .none, .none, .none, .bool false, .none] } → s.heap.objs.size ≤ dx → dx ≠ x → h'.Ns1 dx (fun (y : Str) => if y = "given" then some v0 else none) → R (.ok (.ret .none)) { s with heap := h', toks := tk }) :
    codeAny (model prog w) A (.call (.ref fI) ⟨[.ref x], [("given", v0)]⟩) R s := by
  obtain ⟨oc, od, doc, pm, kV, an, cdv, ct, osl, qual, p0, p1, q00, q01, q02, q03, ho, hcd⟩ := T.fn
  refine Att.call_fn (binds := [("self", .ref x), ("given", v0)]) X hlim ho hcd hroom (PySem.BindsTo.of_eq (by first | rfl | with_unfolding_all rfl)) (by first | rfl | decide | with_unfolding_all rfl) (fun s1 IC => ?_) rfl rfl rfl
  obtain ⟨h1, tk1, rfl⟩ := IC.toInCall.same
  have k : ∀ b o, s.heap.get? b = some o → h1.get? b = some o := IC.toInCall.keep
  have hn0 := IC.toInCall.ns
  have hxL : s.heap.objs.size ≠ x := Nat.ne_of_gt (Heap.lt_size hx)
  have X0 : K.In h1 := X.keeps k
  have hx0 := k _ _ hx
  show wpAny _ _ (execs _ _) _ _ _
  refine wpAny_execs_cons (plainObj_wpAny_Assign_Attribute ?_)
  refine ldLoc (v := v0) hn0 (by first | rfl | with_unfolding_all rfl | kernel_rfl) (ldLoc (v := .ref x) hn0 (by first | rfl | with_unfolding_all rfl | kernel_rfl) ?_)
  refine set_plain X0 (ox := HandSPX.excO C t0) (od := none) ⟨hx0, rfl, rfl, trivial⟩ T.sa ?_
  refine storeNew T.toEC X0 hx0 T.n0 (fun h2 tk2 dx k2 dn dne hx1 ns1 => ?_)
  have X1 : K.In h2 := fun a o e => k2 a o (fun z => by rw [z, hnx] at e; cases e) (X0 a o e)
  have hn1 : h2.Ns s.heap.objs.size _ := let ⟨o, es, ep, e, r⟩ := hn0; ⟨o, es, ep, k2 _ _ hxL e, r⟩
  show wpAny _ _ (execs _ _) _ _ _
  exact wpAny_execs_nil (hq h2 tk2 dx (fun b o hb e => k2 b o hb (k b o e)) hx1 (Nat.le_of_lt (Nat.lt_of_lt_of_le hn0.lt dn)) dne ns1)
theorem madeGvK {prog : Program} {w : World} {A : Around} {R : Result → Shared → Prop} {s : Shared} {K : Frag} {C fI : Addr} {B newId initId : String} {bmB : List Value} {v0 : Value}
    (T : ClsGv K C fI B newId initId bmB) (X : K.In s.heap) (hlim : s.heap.NoLimit) (hroom : A.depth + 1 < recursionLimit)
    (hq : ∀ h' tk e d, Made s.heap h' e C d (fun (y : Str) => if y = "given" then some v0 else none) → R (.ok (.ret (.ref e))) { s with heap := h', toks := tk }) :
    codeAny (model prog w) A (.call (.ref C) ⟨[], [("given", v0)]⟩) R s := by
  obtain ⟨hp, g, dr, tk, os⟩ := s
  have k : ∀ b o, hp.get? b = some o → ((hp.push (kdv_tup [])).push (HandSPX.excO C hp.objs.size)).get? b = some o := fun b o e => Heap.get?_push_of_some _ (Heap.get?_push_of_some _ e)
  have hget : ((hp.push (kdv_tup [])).push (HandSPX.excO C hp.objs.size)).get? (hp.objs.size + 1) = some (HandSPX.excO C hp.objs.size) := by heap_get
  refine madeBy T.toEC X T.iC T.tC (by rw [sizeLine_eq]; simp) ?_
  refine initGvK (s := ⟨(hp.push (kdv_tup [])).push (HandSPX.excO C hp.objs.size), g, dr, tk, os⟩) T (X.keeps k) (hlim.keeps k) hget (noneOf X (Nat.le_succ _)) ?_ (fun h' tk' dx k' hx dn dne hns => ?_)
  · show A.depth + 1 < recursionLimit
    exact hroom
  · have old : ∀ b o, hp.get? b = some o → h'.get? b = some o := fun b o e => k' b o (Nat.ne_of_lt (Nat.lt_succ_of_lt (Heap.lt_size e))) (k b o e)
    have z : hp.objs.size ≤ dx := by
      have q := dn
      simp only [Heap.size_push] at q
      omega
    exact ⟨rfl, hq h' tk' (hp.objs.size + 1) dx ⟨old, Nat.le_succ _, ⟨_, hx⟩, z, dne, hns⟩⟩
def argsIx (p0 p1 : Pos) : Arguments := { posonlyargs := [], args := [{ arg := "self", annotation := none, pos := p0 }, { arg := "index", annotation := none, pos := p1 }], vararg := none, kwonlyargs := [], kw_defaults := [], kwarg := none, defaults := [] }
def bodyIx (q00 q01 q02 q03 : Pos) : List Stmt := [.Assign [.Attribute (.Name "self" q00) "index" q01] (.Name "index" q02) q03]
def scopeIx : Scope := { kind := .function, names := [(PySem.Str.ofString "self", .local), (PySem.Str.ofString "index", .local)], isGenerator := false, isCoroutine := false, more := [] }
/-- the class at C, its __init__ at fI -/
structure ClsIx (K : Frag) (C fI : Addr) (B newId initId : String) (bmB : List Value) : Prop extends EC K C B newId initId bmB where
  iC : findIn K (.ref C) "__init__" = some (some (.ref fI))
  tC : typeIn K (.ref fI) = some (.type "function")
  n0 : findIn K (.ref C) "index" = some none
  fn : ∃ (oc : Value) (od : Option Addr) (doc pm kV : Value) (an : Option Addr) (cdv ct : Value) (osl : Array (Option Value)) (qual : Str) (p0 p1 q00 q01 q02 q03 : Pos),
    K.lookup fI = some ⟨oc, od, .func (fnOf "__init__" qual (argsIx p0 p1) (bodyIx q00 q01 q02 q03) scopeIx .none kV doc pm an cdv ct), osl⟩ ∧ codeIn K cdv qual = true
theorem initIxP {prog : Program} {w : World} {A : Around} {R : Result → Shared → Prop} {s : Shared} {K : Frag} {C fI x t0 : Addr} {B newId initId : String} {bmB : List Value} {v0 : Value}
    (T : ClsIx K C fI B newId initId bmB) (X : K.In s.heap) (hlim : s.heap.NoLimit) (hx : s.heap.get? x = some (HandSPX.excO C t0)) (hnx : K.lookup x = none) (hroom : A.depth < recursionLimit)
    (hq : ∀ h' tk dx, (∀ b o, b ≠ x → s.heap.get? b = some o → h'.get? b = some o) → h'.get? x = some { cls := .ref C, dict := some dx, data := .fields #[.ref t0, .none, .none, .none, .bool false, .none] } → s.heap.objs.size ≤ dx → dx ≠ x → h'.Ns1 dx (fun (y : Str) => if y = "index" then some v0 else none) → R (.ok (.ret .none)) { s with heap := h', toks := tk }) :
    codeAny (model prog w) A (.call (.ref fI) ⟨[.ref x, v0], []⟩) R s := by
  obtain ⟨oc, od, doc, pm, kV, an, cdv, ct, osl, qual, p0, p1, q00, q01, q02, q03, ho, hcd⟩ := T.fn
  refine Att.call_fn (binds := [("self", .ref x), ("index", v0)]) X hlim ho hcd hroom (PySem.BindsTo.of_eq (by first | rfl | with_unfolding_all rfl)) (by first | rfl | decide | with_unfolding_all rfl) (fun s1 IC => ?_) rfl rfl rfl
  obtain ⟨h1, tk1, rfl⟩ := IC.toInCall.same
  have k : ∀ b o, s.heap.get? b = some o → h1.get? b = some o := IC.toInCall.keep
  have hn0 := IC.toInCall.ns
  have hxL : s.heap.objs.size ≠ x := Nat.ne_of_gt (Heap.lt_size hx)
  have X0 : K.In h1 := X.keeps k
  have hx0 := k _ _ hx
  show wpAny _ _ (execs _ _) _ _ _
  refine wpAny_execs_cons (plainObj_wpAny_Assign_Attribute ?_)
  refine ldLoc (v := v0) hn0 (by first | rfl | with_unfolding_all rfl | kernel_rfl) (ldLoc (v := .ref x) hn0 (by first | rfl | with_unfolding_all rfl | kernel_rfl) ?_)
  refine set_plain X0 (ox := HandSPX.excO C t0) (od := none) ⟨hx0, rfl, rfl, trivial⟩ T.sa ?_
  refine storeNew T.toEC X0 hx0 T.n0 (fun h2 tk2 dx k2 dn dne hx1 ns1 => ?_)
  have X1 : K.In h2 := fun a o e => k2 a o (fun z => by rw [z, hnx] at e; cases e) (X0 a o e)
  have hn1 : h2.Ns s.heap.objs.size _ := let ⟨o, es, ep, e, r⟩ := hn0; ⟨o, es, ep, k2 _ _ hxL e, r⟩
  show wpAny _ _ (execs _ _) _ _ _
  exact wpAny_execs_nil (hq h2 tk2 dx (fun b o hb e => k2 b o hb (k b o e)) hx1 (Nat.le_of_lt (Nat.lt_of_lt_of_le hn0.lt dn)) dne ns1)
theorem madeIxP {prog : Program} {w : World} {A : Around} {R : Result → Shared → Prop} {s : Shared} {K : Frag} {C fI : Addr} {B newId initId : String} {bmB : List Value} {v0 : Value}
    (T : ClsIx K C fI B newId initId bmB) (X : K.In s.heap) (hlim : s.heap.NoLimit) (hroom : A.depth + 1 < recursionLimit)
    (hq : ∀ h' tk e d, Made s.heap h' e C d (fun (y : Str) => if y = "index" then some v0 else none) → R (.ok (.ret (.ref e))) { s with heap := h', toks := tk }) :
    codeAny (model prog w) A (.call (.ref C) ⟨[v0], []⟩) R s := by
  obtain ⟨hp, g, dr, tk, os⟩ := s
  have k : ∀ b o, hp.get? b = some o → ((hp.push (kdv_tup [v0])).push (HandSPX.excO C hp.objs.size)).get? b = some o := fun b o e => Heap.get?_push_of_some _ (Heap.get?_push_of_some _ e)
  have hget : ((hp.push (kdv_tup [v0])).push (HandSPX.excO C hp.objs.size)).get? (hp.objs.size + 1) = some (HandSPX.excO C hp.objs.size) := by heap_get
  refine madeBy T.toEC X T.iC T.tC (by rw [sizeLine_eq]; simp) ?_
  refine initIxP (s := ⟨(hp.push (kdv_tup [v0])).push (HandSPX.excO C hp.objs.size), g, dr, tk, os⟩) T (X.keeps k) (hlim.keeps k) hget (noneOf X (Nat.le_succ _)) ?_ (fun h' tk' dx k' hx dn dne hns => ?_)
  · show A.depth + 1 < recursionLimit
    exact hroom
  · have old : ∀ b o, hp.get? b = some o → h'.get? b = some o := fun b o e => k' b o (Nat.ne_of_lt (Nat.lt_succ_of_lt (Heap.lt_size e))) (k b o e)
    have z : hp.objs.size ≤ dx := by
      have q := dn
      simp only [Heap.size_push] at q
      omega
    exact ⟨rfl, hq h' tk' (hp.objs.size + 1) dx ⟨old, Nat.le_succ _, ⟨_, hx⟩, z, dne, hns⟩⟩
theorem initIxK {prog : Program} {w : World} {A : Around} {R : Result → Shared → Prop} {s : Shared} {K : Frag} {C fI x t0 : Addr} {B newId initId : String} {bmB : List Value} {v0 : Value}
    (T : ClsIx K C fI B newId initId bmB) (X : K.In s.heap) (hlim : s.heap.NoLimit) (hx : s.heap.get? x = some (HandSPX.excO C t0)) (hnx : K.lookup x = none) (hroom : A.depth < recursionLimit)
    (hq : ∀ h' tk dx, (∀ b o, b ≠ x → s.heap.get? b = some o → h'.get? b = some o) → h'.get? x = some { cls := .ref C, dict := some dx, data := .fields #[.ref t0, .none, .none, .none, .bool false, .none] } → s.heap.objs.size ≤ dx → dx ≠ x → h'.Ns1 dx (fun (y : Str) => if y = "index" then some v0 else none) → R (.ok (.ret .none)) { s with heap := h', toks := tk }) :
    codeAny (model prog w) A (.call (.ref fI) ⟨[.ref x], [("index", v0)]⟩) R s := by
  obtain ⟨oc, od, doc, pm, kV, an, cdv, ct, osl, qual, p0, p1, q00, q01, q02, q03, ho, hcd⟩ := T.fn
  refine Att.call_fn (binds := [("self", .ref x), ("index", v0)]) X hlim ho hcd hroom (PySem.BindsTo.of_eq (by first | rfl | with_unfolding_all rfl)) (by first | rfl | decide | with_unfolding_all rfl) (fun s1 IC => ?_) rfl rfl rfl
  obtain ⟨h1, tk1, rfl⟩ := IC.toInCall.same
  have k : ∀ b o, s.heap.get? b = some o → h1.get? b = some o := IC.toInCall.keep
  have hn0 := IC.toInCall.ns
  have hxL : s.heap.objs.size ≠ x := Nat.ne_of_gt (Heap.lt_size hx)
  have X0 : K.In h1 := X.keeps k
  have hx0 := k _ _ hx
  show wpAny _ _ (execs _ _) _ _ _
  refine wpAny_execs_cons (plainObj_wpAny_Assign_Attribute ?_)
  refine ldLoc (v := v0) hn0 (by first | rfl | with_unfolding_all rfl | kernel_rfl) (ldLoc (v := .ref x) hn0 (by first | rfl | with_unfolding_all rfl | kernel_rfl) ?_)
  refine set_plain X0 (ox := HandSPX.excO C t0) (od := none) ⟨hx0, rfl, rfl, trivial⟩ T.sa ?_
  refine storeNew T.toEC X0 hx0 T.n0 (fun h2 tk2 dx k2 dn dne hx1 ns1 => ?_)
  have X1 : K.In h2 := fun a o e => k2 a o (fun z => by rw [z, hnx] at e; cases e) (X0 a o e)
  have hn1 : h2.Ns s.heap.objs.size _ := let ⟨o, es, ep, e, r⟩ := hn0; ⟨o, es, ep, k2 _ _ hxL e, r⟩
  show wpAny _ _ (execs _ _) _ _ _
  exact wpAny_execs_nil (hq h2 tk2 dx (fun b o hb e => k2 b o hb (k b o e)) hx1 (Nat.le_of_lt (Nat.lt_of_lt_of_le hn0.lt dn)) dne ns1)
theorem madeIxK {prog : Program} {w : World} {A : Around} {R : Result → Shared → Prop} {s : Shared} {K : Frag} {C fI : Addr} {B newId initId : String} {bmB : List Value} {v0 : Value}
    (T : ClsIx K C fI B newId initId bmB) (X : K.In s.heap) (hlim : s.heap.NoLimit) (hroom : A.depth + 1 < recursionLimit)
    (hq : ∀ h' tk e d, Made s.heap h' e C d (fun (y : Str) => if y = "index" then some v0 else none) → R (.ok (.ret (.ref e))) { s with heap := h', toks := tk }) :
    codeAny (model prog w) A (.call (.ref C) ⟨[], [("index", v0)]⟩) R s := by
  obtain ⟨hp, g, dr, tk, os⟩ := s
  have k : ∀ b o, hp.get? b = some o → ((hp.push (kdv_tup [])).push (HandSPX.excO C hp.objs.size)).get? b = some o := fun b o e => Heap.get?_push_of_some _ (Heap.get?_push_of_some _ e)
  have hget : ((hp.push (kdv_tup [])).push (HandSPX.excO C hp.objs.size)).get? (hp.objs.size + 1) = some (HandSPX.excO C hp.objs.size) := by heap_get
  refine madeBy T.toEC X T.iC T.tC (by rw [sizeLine_eq]; simp) ?_
  refine initIxK (s := ⟨(hp.push (kdv_tup [])).push (HandSPX.excO C hp.objs.size), g, dr, tk, os⟩) T (X.keeps k) (hlim.keeps k) hget (noneOf X (Nat.le_succ _)) ?_ (fun h' tk' dx k' hx dn dne hns => ?_)
  · show A.depth + 1 < recursionLimit
    exact hroom
  · have old : ∀ b o, hp.get? b = some o → h'.get? b = some o := fun b o e => k' b o (Nat.ne_of_lt (Nat.lt_succ_of_lt (Heap.lt_size e))) (k b o e)
    have z : hp.objs.size ≤ dx := by
      have q := dn
      simp only [Heap.size_push] at q
      omega
    exact ⟨rfl, hq h' tk' (hp.objs.size + 1) dx ⟨old, Nat.le_succ _, ⟨_, hx⟩, z, dne, hns⟩⟩
def argsMo (p0 p1 : Pos) : Arguments := { posonlyargs := [], args := [{ arg := "self", annotation := none, pos := p0 }, { arg := "most", annotation := none, pos := p1 }], vararg := none, kwonlyargs := [], kw_defaults := [], kwarg := none, defaults := [] }
def bodyMo (q00 q01 q02 q03 : Pos) : List Stmt := [.Assign [.Attribute (.Name "self" q00) "most" q01] (.Name "most" q02) q03]
def scopeMo : Scope := { kind := .function, names := [(PySem.Str.ofString "self", .local), (PySem.Str.ofString "most", .local)], isGenerator := false, isCoroutine := false, more := [] }
/-- the class at C, its __init__ at fI -/
structure ClsMo (K : Frag) (C fI : Addr) (B newId initId : String) (bmB : List Value) : Prop extends EC K C B newId initId bmB where
  iC : findIn K (.ref C) "__init__" = some (some (.ref fI))
  tC : typeIn K (.ref fI) = some (.type "function")
  n0 : findIn K (.ref C) "most" = some none
  fn : ∃ (oc : Value) (od : Option Addr) (doc pm kV : Value) (an : Option Addr) (cdv ct : Value) (osl : Array (Option Value)) (qual : Str) (p0 p1 q00 q01 q02 q03 : Pos),
    K.lookup fI = some ⟨oc, od, .func (fnOf "__init__" qual (argsMo p0 p1) (bodyMo q00 q01 q02 q03) scopeMo .none kV doc pm an cdv ct), osl⟩ ∧ codeIn K cdv qual = true
theorem initMoP {prog : Program} {w : World} {A : Around} {R : Result → Shared → Prop} {s : Shared} {K : Frag} {C fI x t0 : Addr} {B newId initId : String} {bmB : List Value} {v0 : Value}
    (T : ClsMo K C fI B newId initId bmB) (X : K.In s.heap) (hlim : s.heap.NoLimit) (hx : s.heap.get? x = some (HandSPX.excO C t0)) (hnx : K.lookup x = none) (hroom : A.depth < recursionLimit)
    (hq : ∀ h' tk dx, (∀ b o, b ≠ x → s.heap.get? b = some o → h'.get? b = some o) → h'.get? x = some { cls := .ref C, dict := some dx, data := .fields #[.ref t0, .none, .none, .none, .bool false, .none] } → s.heap.objs.size ≤ dx → dx ≠ x → h'.Ns1 dx (fun (y : Str) => if y = "most" then some v0 else none) → R (.ok (.ret .none)) { s with heap := h', toks := tk }) :
    codeAny (model prog w) A (.call (.ref fI) ⟨[.ref x, v0], []⟩) R s := by
  obtain ⟨oc, od, doc, pm, kV, an, cdv, ct, osl, qual, p0, p1, q00, q01, q02, q03, ho, hcd⟩ := T.fn
  refine Att.call_fn (binds := [("self", .ref x), ("most", v0)]) X hlim ho hcd hroom (PySem.BindsTo.of_eq (by first | rfl | with_unfolding_all rfl)) (by first | rfl | decide | with_unfolding_all rfl) (fun s1 IC => ?_) rfl rfl rfl
  obtain ⟨h1, tk1, rfl⟩ := IC.toInCall.same
  have k : ∀ b o, s.heap.get? b = some o → h1.get? b = some o := IC.toInCall.keep
  have hn0 := IC.toInCall.ns
  have hxL : s.heap.objs.size ≠ x := Nat.ne_of_gt (Heap.lt_size hx)
  have X0 : K.In h1 := X.keeps k
  have hx0 := k _ _ hx
  show wpAny _ _ (execs _ _) _ _ _
  refine wpAny_execs_cons (plainObj_wpAny_Assign_Attribute ?_)
  refine ldLoc (v := v0) hn0 (by first | rfl | with_unfolding_all rfl | kernel_rfl) (ldLoc (v := .ref x) hn0 (by first | rfl | with_unfolding_all rfl | kernel_rfl) ?_)
  refine set_plain X0 (ox := HandSPX.excO C t0) (od := none) ⟨hx0, rfl, rfl, trivial⟩ T.sa ?_
  refine storeNew T.toEC X0 hx0 T.n0 (fun h2 tk2 dx k2 dn dne hx1 ns1 => ?_)
  have X1 : K.In h2 := fun a o e => k2 a o (fun z => by rw [z, hnx] at e; cases e) (X0 a o e)
  have hn1 : h2.Ns s.heap.objs.size _ := let ⟨o, es, ep, e, r⟩ := hn0; ⟨o, es, ep, k2 _ _ hxL e, r⟩
  show wpAny _ _ (execs _ _) _ _ _
  exact wpAny_execs_nil (hq h2 tk2 dx (fun b o hb e => k2 b o hb (k b o e)) hx1 (Nat.le_of_lt (Nat.lt_of_lt_of_le hn0.lt dn)) dne ns1)
theorem madeMoP {prog : Program} {w : World} {A : Around} {R : Result → Shared → Prop} {s : Shared} {K : Frag} {C fI : Addr} {B newId initId : String} {bmB : List Value} {v0 : Value}
    (T : ClsMo K C fI B newId initId bmB) (X : K.In s.heap) (hlim : s.heap.NoLimit) (hroom : A.depth + 1 < recursionLimit)
    (hq : ∀ h' tk e d, Made s.heap h' e C d (fun (y : Str) => if y = "most" then some v0 else none) → R (.ok (.ret (.ref e))) { s with heap := h', toks := tk }) :
    codeAny (model prog w) A (.call (.ref C) ⟨[v0], []⟩) R s := by
  obtain ⟨hp, g, dr, tk, os⟩ := s
  have k : ∀ b o, hp.get? b = some o → ((hp.push (kdv_tup [v0])).push (HandSPX.excO C hp.objs.size)).get? b = some o := fun b o e => Heap.get?_push_of_some _ (Heap.get?_push_of_some _ e)
  have hget : ((hp.push (kdv_tup [v0])).push (HandSPX.excO C hp.objs.size)).get? (hp.objs.size + 1) = some (HandSPX.excO C hp.objs.size) := by heap_get
  refine madeBy T.toEC X T.iC T.tC (by rw [sizeLine_eq]; simp) ?_
  refine initMoP (s := ⟨(hp.push (kdv_tup [v0])).push (HandSPX.excO C hp.objs.size), g, dr, tk, os⟩) T (X.keeps k) (hlim.keeps k) hget (noneOf X (Nat.le_succ _)) ?_ (fun h' tk' dx k' hx dn dne hns => ?_)
  · show A.depth + 1 < recursionLimit
    exact hroom
  · have old : ∀ b o, hp.get? b = some o → h'.get? b = some o := fun b o e => k' b o (Nat.ne_of_lt (Nat.lt_succ_of_lt (Heap.lt_size e))) (k b o e)
    have z : hp.objs.size ≤ dx := by
      have q := dn
      simp only [Heap.size_push] at q
      omega
    exact ⟨rfl, hq h' tk' (hp.objs.size + 1) dx ⟨old, Nat.le_succ _, ⟨_, hx⟩, z, dne, hns⟩⟩
theorem initMoK {prog : Program} {w : World} {A : Around} {R : Result → Shared → Prop} {s : Shared} {K : Frag} {C fI x t0 : Addr} {B newId initId : String} {bmB : List Value} {v0 : Value}
    (T : ClsMo K C fI B newId initId bmB) (X : K.In s.heap) (hlim : s.heap.NoLimit) (hx : s.heap.get? x = some (HandSPX.excO C t0)) (hnx : K.lookup x = none) (hroom : A.depth < recursionLimit)
    (hq : ∀ h' tk dx, (∀ b o, b ≠ x → s.heap.get? b = some o → h'.get? b = some o) → h'.get? x = some { cls := .ref C, dict := some dx, data := .fields #[.ref t0, .none, .none, .none, .bool false, .none] } → s.heap.objs.size ≤ dx → dx ≠ x → h'.Ns1 dx (fun (y : Str) => if y = "most" then some v0 else none) → R (.ok (.ret .none)) { s with heap := h', toks := tk }) :
    codeAny (model prog w) A (.call (.ref fI) ⟨[.ref x], [("most", v0)]⟩) R s := by
  obtain ⟨oc, od, doc, pm, kV, an, cdv, ct, osl, qual, p0, p1, q00, q01, q02, q03, ho, hcd⟩ := T.fn
  refine Att.call_fn (binds := [("self", .ref x), ("most", v0)]) X hlim ho hcd hroom (PySem.BindsTo.of_eq (by first | rfl | with_unfolding_all rfl)) (by first | rfl | decide | with_unfolding_all rfl) (fun s1 IC => ?_) rfl rfl rfl
  obtain ⟨h1, tk1, rfl⟩ := IC.toInCall.same
  have k : ∀ b o, s.heap.get? b = some o → h1.get? b = some o := IC.toInCall.keep
  have hn0 := IC.toInCall.ns
  have hxL : s.heap.objs.size ≠ x := Nat.ne_of_gt (Heap.lt_size hx)
  have X0 : K.In h1 := X.keeps k
  have hx0 := k _ _ hx
  show wpAny _ _ (execs _ _) _ _ _
  refine wpAny_execs_cons (plainObj_wpAny_Assign_Attribute ?_)
  refine ldLoc (v := v0) hn0 (by first | rfl | with_unfolding_all rfl | kernel_rfl) (ldLoc (v := .ref x) hn0 (by first | rfl | with_unfolding_all rfl | kernel_rfl) ?_)
  refine set_plain X0 (ox := HandSPX.excO C t0) (od := none) ⟨hx0, rfl, rfl, trivial⟩ T.sa ?_
  refine storeNew T.toEC X0 hx0 T.n0 (fun h2 tk2 dx k2 dn dne hx1 ns1 => ?_)
  have X1 : K.In h2 := fun a o e => k2 a o (fun z => by rw [z, hnx] at e; cases e) (X0 a o e)
  have hn1 : h2.Ns s.heap.objs.size _ := let ⟨o, es, ep, e, r⟩ := hn0; ⟨o, es, ep, k2 _ _ hxL e, r⟩
  show wpAny _ _ (execs _ _) _ _ _
  exact wpAny_execs_nil (hq h2 tk2 dx (fun b o hb e => k2 b o hb (k b o e)) hx1 (Nat.le_of_lt (Nat.lt_of_lt_of_le hn0.lt dn)) dne ns1)
theorem madeMoK {prog : Program} {w : World} {A : Around} {R : Result → Shared → Prop} {s : Shared} {K : Frag} {C fI : Addr} {B newId initId : String} {bmB : List Value} {v0 : Value}
    (T : ClsMo K C fI B newId initId bmB) (X : K.In s.heap) (hlim : s.heap.NoLimit) (hroom : A.depth + 1 < recursionLimit)
    (hq : ∀ h' tk e d, Made s.heap h' e C d (fun (y : Str) => if y = "most" then some v0 else none) → R (.ok (.ret (.ref e))) { s with heap := h', toks := tk }) :
    codeAny (model prog w) A (.call (.ref C) ⟨[], [("most", v0)]⟩) R s := by
  obtain ⟨hp, g, dr, tk, os⟩ := s
  have k : ∀ b o, hp.get? b = some o → ((hp.push (kdv_tup [])).push (HandSPX.excO C hp.objs.size)).get? b = some o := fun b o e => Heap.get?_push_of_some _ (Heap.get?_push_of_some _ e)
  have hget : ((hp.push (kdv_tup [])).push (HandSPX.excO C hp.objs.size)).get? (hp.objs.size + 1) = some (HandSPX.excO C hp.objs.size) := by heap_get
  refine madeBy T.toEC X T.iC T.tC (by rw [sizeLine_eq]; simp) ?_
  refine initMoK (s := ⟨(hp.push (kdv_tup [])).push (HandSPX.excO C hp.objs.size), g, dr, tk, os⟩) T (X.keeps k) (hlim.keeps k) hget (noneOf X (Nat.le_succ _)) ?_ (fun h' tk' dx k' hx dn dne hns => ?_)
  · show A.depth + 1 < recursionLimit
    exact hroom
  · have old : ∀ b o, hp.get? b = some o → h'.get? b = some o := fun b o e => k' b o (Nat.ne_of_lt (Nat.lt_succ_of_lt (Heap.lt_size e))) (k b o e)
    have z : hp.objs.size ≤ dx := by
      have q := dn
      simp only [Heap.size_push] at q
      omega
    exact ⟨rfl, hq h' tk' (hp.objs.size + 1) dx ⟨old, Nat.le_succ _, ⟨_, hx⟩, z, dne, hns⟩⟩
def argsBr (p0 p1 p2 : Pos) : Arguments := { posonlyargs := [], args := [{ arg := "self", annotation := none, pos := p0 }, { arg := "index", annotation := none, pos := p1 }, { arg := "shown", annotation := none, pos := p2 }], vararg := none, kwonlyargs := [], kw_defaults := [], kwarg := none, defaults := [] }
def bodyBr (q00 q01 q02 q03 q10 q11 q12 q13 : Pos) : List Stmt := [.Assign [.Attribute (.Name "self" q00) "index" q01] (.Name "index" q02) q03, .Assign [.Attribute (.Name "self" q10) "shown" q11] (.Name "shown" q12) q13]
def scopeBr : Scope := { kind := .function, names := [(PySem.Str.ofString "self", .local), (PySem.Str.ofString "index", .local), (PySem.Str.ofString "shown", .local)], isGenerator := false, isCoroutine := false, more := [] }
/-- the class at C, its __init__ at fI -/
structure ClsBr (K : Frag) (C fI : Addr) (B newId initId : String) (bmB : List Value) : Prop extends EC K C B newId initId bmB where
  iC : findIn K (.ref C) "__init__" = some (some (.ref fI))
  tC : typeIn K (.ref fI) = some (.type "function")
  n0 : findIn K (.ref C) "index" = some none
  n1 : findIn K (.ref C) "shown" = some none
  fn : ∃ (oc : Value) (od : Option Addr) (doc pm kV : Value) (an : Option Addr) (cdv ct : Value) (osl : Array (Option Value)) (qual : Str) (p0 p1 p2 q00 q01 q02 q03 q10 q11 q12 q13 : Pos),
    K.lookup fI = some ⟨oc, od, .func (fnOf "__init__" qual (argsBr p0 p1 p2) (bodyBr q00 q01 q02 q03 q10 q11 q12 q13) scopeBr .none kV doc pm an cdv ct), osl⟩ ∧ codeIn K cdv qual = true
theorem initBrP {prog : Program} {w : World} {A : Around} {R : Result → Shared → Prop} {s : Shared} {K : Frag} {C fI x t0 : Addr} {B newId initId : String} {bmB : List Value} {v0 v1 : Value}
    (T : ClsBr K C fI B newId initId bmB) (X : K.In s.heap) (hlim : s.heap.NoLimit) (hx : s.heap.get? x = some (HandSPX.excO C t0)) (hnx : K.lookup x = none) (hroom : A.depth < recursionLimit)
    (hq : ∀ h' tk dx, (∀ b o, b ≠ x → s.heap.get? b = some o → h'.get? b = some o) → h'.get? x = some { cls := .ref C, dict := some dx, data := .fields #[.ref t0, .none, .none, .none, .bool false, .none] } → s.heap.objs.size ≤ dx → dx ≠ x → h'.Ns1 dx (fun (y : Str) => if y = "shown" then some v1 else if y = "index" then some v0 else none) → R (.ok (.ret .none)) { s with heap := h', toks := tk }) :
    codeAny (model prog w) A (.call (.ref fI) ⟨[.ref x, v0, v1], []⟩) R s := by
  obtain ⟨oc, od, doc, pm, kV, an, cdv, ct, osl, qual, p0, p1, p2, q00, q01, q02, q03, q10, q11, q12, q13, ho, hcd⟩ := T.fn
  refine Att.call_fn (binds := [("self", .ref x), ("index", v0), ("shown", v1)]) X hlim ho hcd hroom (PySem.BindsTo.of_eq (by first | rfl | with_unfolding_all rfl)) (by first | rfl | decide | with_unfolding_all rfl) (fun s1 IC => ?_) rfl rfl rfl
  obtain ⟨h1, tk1, rfl⟩ := IC.toInCall.same
  have k : ∀ b o, s.heap.get? b = some o → h1.get? b = some o := IC.toInCall.keep
  have hn0 := IC.toInCall.ns
  have hxL : s.heap.objs.size ≠ x := Nat.ne_of_gt (Heap.lt_size hx)
  have X0 : K.In h1 := X.keeps k
  have hx0 := k _ _ hx
  show wpAny _ _ (execs _ _) _ _ _
  refine wpAny_execs_cons (plainObj_wpAny_Assign_Attribute ?_)
  refine ldLoc (v := v0) hn0 (by first | rfl | with_unfolding_all rfl | kernel_rfl) (ldLoc (v := .ref x) hn0 (by first | rfl | with_unfolding_all rfl | kernel_rfl) ?_)
  refine set_plain X0 (ox := HandSPX.excO C t0) (od := none) ⟨hx0, rfl, rfl, trivial⟩ T.sa ?_
  refine storeNew T.toEC X0 hx0 T.n0 (fun h2 tk2 dx k2 dn dne hx1 ns1 => ?_)
  have X1 : K.In h2 := fun a o e => k2 a o (fun z => by rw [z, hnx] at e; cases e) (X0 a o e)
  have hn1 : h2.Ns s.heap.objs.size _ := let ⟨o, es, ep, e, r⟩ := hn0; ⟨o, es, ep, k2 _ _ hxL e, r⟩
  show wpAny _ _ (execs _ _) _ _ _
  refine wpAny_execs_cons (plainObj_wpAny_Assign_Attribute ?_)
  refine ldLoc (v := v1) hn1 (by first | rfl | with_unfolding_all rfl | kernel_rfl) (ldLoc (v := .ref x) hn1 (by first | rfl | with_unfolding_all rfl | kernel_rfl) ?_)
  have dnL : s.heap.objs.size ≠ dx := Nat.ne_of_lt (Nat.lt_of_lt_of_le hn0.lt dn)
  obtain ⟨oD1, hoD1, _⟩ := L2.lookIn_ns ns1
  refine set_plain X1 (ox := { cls := .ref C, dict := some dx, data := .fields #[.ref t0, .none, .none, .none, .bool false, .none] }) (od := some oD1) ⟨hx1, rfl, rfl, hoD1⟩ T.sa ?_
  refine storeMore T.toEC X1 hx1 ns1 (Within.cons "index" v0 Within.nil) (by show 1 ≤ 1000; decide) T.n1 (fun h3 tk3 k3 ns2 => ?_)
  show wpAny _ _ (execs _ _) _ _ _
  refine wpAny_execs_nil (hq h3 tk3 dx (fun b o hb e => k3 b o (fun z => ?_) (k2 b o hb (k b o e))) (k3 _ _ (Ne.symm dne) hx1) (Nat.le_of_lt (Nat.lt_of_lt_of_le hn0.lt dn)) dne ns2)
  rw [z] at e
  exact absurd (Nat.lt_trans (Heap.lt_size e) (Nat.lt_of_lt_of_le hn0.lt dn)) (Nat.lt_irrefl _)
theorem madeBrP {prog : Program} {w : World} {A : Around} {R : Result → Shared → Prop} {s : Shared} {K : Frag} {C fI : Addr} {B newId initId : String} {bmB : List Value} {v0 v1 : Value}
    (T : ClsBr K C fI B newId initId bmB) (X : K.In s.heap) (hlim : s.heap.NoLimit) (hroom : A.depth + 1 < recursionLimit)
    (hq : ∀ h' tk e d, Made s.heap h' e C d (fun (y : Str) => if y = "shown" then some v1 else if y = "index" then some v0 else none) → R (.ok (.ret (.ref e))) { s with heap := h', toks := tk }) :
    codeAny (model prog w) A (.call (.ref C) ⟨[v0, v1], []⟩) R s := by
  obtain ⟨hp, g, dr, tk, os⟩ := s
  have k : ∀ b o, hp.get? b = some o → ((hp.push (kdv_tup [v0, v1])).push (HandSPX.excO C hp.objs.size)).get? b = some o := fun b o e => Heap.get?_push_of_some _ (Heap.get?_push_of_some _ e)
  have hget : ((hp.push (kdv_tup [v0, v1])).push (HandSPX.excO C hp.objs.size)).get? (hp.objs.size + 1) = some (HandSPX.excO C hp.objs.size) := by heap_get
  refine madeBy T.toEC X T.iC T.tC (by rw [sizeLine_eq]; simp) ?_
  refine initBrP (s := ⟨(hp.push (kdv_tup [v0, v1])).push (HandSPX.excO C hp.objs.size), g, dr, tk, os⟩) T (X.keeps k) (hlim.keeps k) hget (noneOf X (Nat.le_succ _)) ?_ (fun h' tk' dx k' hx dn dne hns => ?_)
  · show A.depth + 1 < recursionLimit
    exact hroom
  · have old : ∀ b o, hp.get? b = some o → h'.get? b = some o := fun b o e => k' b o (Nat.ne_of_lt (Nat.lt_succ_of_lt (Heap.lt_size e))) (k b o e)
    have z : hp.objs.size ≤ dx := by
      have q := dn
      simp only [Heap.size_push] at q
      omega
    exact ⟨rfl, hq h' tk' (hp.objs.size + 1) dx ⟨old, Nat.le_succ _, ⟨_, hx⟩, z, dne, hns⟩⟩
theorem initBrK {prog : Program} {w : World} {A : Around} {R : Result → Shared → Prop} {s : Shared} {K : Frag} {C fI x t0 : Addr} {B newId initId : String} {bmB : List Value} {v0 v1 : Value}
    (T : ClsBr K C fI B newId initId bmB) (X : K.In s.heap) (hlim : s.heap.NoLimit) (hx : s.heap.get? x = some (HandSPX.excO C t0)) (hnx : K.lookup x = none) (hroom : A.depth < recursionLimit)
    (hq : ∀ h' tk dx, (∀ b o, b ≠ x → s.heap.get? b = some o → h'.get? b = some o) → h'.get? x = some { cls := .ref C, dict := some dx, data := .fields #[.ref t0, .none, .none, .none, .bool false, .none] } → s.heap.objs.size ≤ dx → dx ≠ x → h'.Ns1 dx (fun (y : Str) => if y = "shown" then some v1 else if y = "index" then some v0 else none) → R (.ok (.ret .none)) { s with heap := h', toks := tk }) :
    codeAny (model prog w) A (.call (.ref fI) ⟨[.ref x], [("index", v0), ("shown", v1)]⟩) R s := by
  obtain ⟨oc, od, doc, pm, kV, an, cdv, ct, osl, qual, p0, p1, p2, q00, q01, q02, q03, q10, q11, q12, q13, ho, hcd⟩ := T.fn
  refine Att.call_fn (binds := [("self", .ref x), ("index", v0), ("shown", v1)]) X hlim ho hcd hroom (PySem.BindsTo.of_eq (by first | rfl | with_unfolding_all rfl)) (by first | rfl | decide | with_unfolding_all rfl) (fun s1 IC => ?_) rfl rfl rfl
  obtain ⟨h1, tk1, rfl⟩ := IC.toInCall.same
  have k : ∀ b o, s.heap.get? b = some o → h1.get? b = some o := IC.toInCall.keep
  have hn0 := IC.toInCall.ns
  have hxL : s.heap.objs.size ≠ x := Nat.ne_of_gt (Heap.lt_size hx)
  have X0 : K.In h1 := X.keeps k
  have hx0 := k _ _ hx
  show wpAny _ _ (execs _ _) _ _ _
  refine wpAny_execs_cons (plainObj_wpAny_Assign_Attribute ?_)
  refine ldLoc (v := v0) hn0 (by first | rfl | with_unfolding_all rfl | kernel_rfl) (ldLoc (v := .ref x) hn0 (by first | rfl | with_unfolding_all rfl | kernel_rfl) ?_)
  refine set_plain X0 (ox := HandSPX.excO C t0) (od := none) ⟨hx0, rfl, rfl, trivial⟩ T.sa ?_
  refine storeNew T.toEC X0 hx0 T.n0 (fun h2 tk2 dx k2 dn dne hx1 ns1 => ?_)
  have X1 : K.In h2 := fun a o e => k2 a o (fun z => by rw [z, hnx] at e; cases e) (X0 a o e)
  have hn1 : h2.Ns s.heap.objs.size _ := let ⟨o, es, ep, e, r⟩ := hn0; ⟨o, es, ep, k2 _ _ hxL e, r⟩
  show wpAny _ _ (execs _ _) _ _ _
  refine wpAny_execs_cons (plainObj_wpAny_Assign_Attribute ?_)
  refine ldLoc (v := v1) hn1 (by first | rfl | with_unfolding_all rfl | kernel_rfl) (ldLoc (v := .ref x) hn1 (by first | rfl | with_unfolding_all rfl | kernel_rfl) ?_)
  have dnL : s.heap.objs.size ≠ dx := Nat.ne_of_lt (Nat.lt_of_lt_of_le hn0.lt dn)
  obtain ⟨oD1, hoD1, _⟩ := L2.lookIn_ns ns1
  refine set_plain X1 (ox := { cls := .ref C, dict := some dx, data := .fields #[.ref t0, .none, .none, .none, .bool false, .none] }) (od := some oD1) ⟨hx1, rfl, rfl, hoD1⟩ T.sa ?_
  refine storeMore T.toEC X1 hx1 ns1 (Within.cons "index" v0 Within.nil) (by show 1 ≤ 1000; decide) T.n1 (fun h3 tk3 k3 ns2 => ?_)
  show wpAny _ _ (execs _ _) _ _ _
  refine wpAny_execs_nil (hq h3 tk3 dx (fun b o hb e => k3 b o (fun z => ?_) (k2 b o hb (k b o e))) (k3 _ _ (Ne.symm dne) hx1) (Nat.le_of_lt (Nat.lt_of_lt_of_le hn0.lt dn)) dne ns2)
  rw [z] at e
  exact absurd (Nat.lt_trans (Heap.lt_size e) (Nat.lt_of_lt_of_le hn0.lt dn)) (Nat.lt_irrefl _)
theorem madeBrK {prog : Program} {w : World} {A : Around} {R : Result → Shared → Prop} {s : Shared} {K : Frag} {C fI : Addr} {B newId initId : String} {bmB : List Value} {v0 v1 : Value}
    (T : ClsBr K C fI B newId initId bmB) (X : K.In s.heap) (hlim : s.heap.NoLimit) (hroom : A.depth + 1 < recursionLimit)
    (hq : ∀ h' tk e d, Made s.heap h' e C d (fun (y : Str) => if y = "shown" then some v1 else if y = "index" then some v0 else none) → R (.ok (.ret (.ref e))) { s with heap := h', toks := tk }) :
    codeAny (model prog w) A (.call (.ref C) ⟨[], [("index", v0), ("shown", v1)]⟩) R s := by
  obtain ⟨hp, g, dr, tk, os⟩ := s
  have k : ∀ b o, hp.get? b = some o → ((hp.push (kdv_tup [])).push (HandSPX.excO C hp.objs.size)).get? b = some o := fun b o e => Heap.get?_push_of_some _ (Heap.get?_push_of_some _ e)
  have hget : ((hp.push (kdv_tup [])).push (HandSPX.excO C hp.objs.size)).get? (hp.objs.size + 1) = some (HandSPX.excO C hp.objs.size) := by heap_get
  refine madeBy T.toEC X T.iC T.tC (by rw [sizeLine_eq]; simp) ?_
  refine initBrK (s := ⟨(hp.push (kdv_tup [])).push (HandSPX.excO C hp.objs.size), g, dr, tk, os⟩) T (X.keeps k) (hlim.keeps k) hget (noneOf X (Nat.le_succ _)) ?_ (fun h' tk' dx k' hx dn dne hns => ?_)
  · show A.depth + 1 < recursionLimit
    exact hroom
  · have old : ∀ b o, hp.get? b = some o → h'.get? b = some o := fun b o e => k' b o (Nat.ne_of_lt (Nat.lt_succ_of_lt (Heap.lt_size e))) (k b o e)
    have z : hp.objs.size ≤ dx := by
      have q := dn
      simp only [Heap.size_push] at q
      omega
    exact ⟨rfl, hq h' tk' (hp.objs.size + 1) dx ⟨old, Nat.le_succ _, ⟨_, hx⟩, z, dne, hns⟩⟩
theorem initBrR {prog : Program} {w : World} {A : Around} {R : Result → Shared → Prop} {s : Shared} {K : Frag} {C fI x t0 : Addr} {B newId initId : String} {bmB : List Value} {v0 v1 : Value}
    (T : ClsBr K C fI B newId initId bmB) (X : K.In s.heap) (hlim : s.heap.NoLimit) (hx : s.heap.get? x = some (HandSPX.excO C t0)) (hnx : K.lookup x = none) (hroom : A.depth < recursionLimit)
    (hq : ∀ h' tk dx, (∀ b o, b ≠ x → s.heap.get? b = some o → h'.get? b = some o) → h'.get? x = some { cls := .ref C, dict := some dx, data := .fields #[.ref t0, .none, .none, .none, .bool false, .none] } → s.heap.objs.size ≤ dx → dx ≠ x → h'.Ns1 dx (fun (y : Str) => if y = "shown" then some v1 else if y = "index" then some v0 else none) → R (.ok (.ret .none)) { s with heap := h', toks := tk }) :
    codeAny (model prog w) A (.call (.ref fI) ⟨[.ref x], [("shown", v1), ("index", v0)]⟩) R s := by
  obtain ⟨oc, od, doc, pm, kV, an, cdv, ct, osl, qual, p0, p1, p2, q00, q01, q02, q03, q10, q11, q12, q13, ho, hcd⟩ := T.fn
  refine Att.call_fn (binds := [("self", .ref x), ("index", v0), ("shown", v1)]) X hlim ho hcd hroom (PySem.BindsTo.of_eq (by first | rfl | with_unfolding_all rfl)) (by first | rfl | decide | with_unfolding_all rfl) (fun s1 IC => ?_) rfl rfl rfl
  obtain ⟨h1, tk1, rfl⟩ := IC.toInCall.same
  have k : ∀ b o, s.heap.get? b = some o → h1.get? b = some o := IC.toInCall.keep
  have hn0 := IC.toInCall.ns
  have hxL : s.heap.objs.size ≠ x := Nat.ne_of_gt (Heap.lt_size hx)
  have X0 : K.In h1 := X.keeps k
  have hx0 := k _ _ hx
  show wpAny _ _ (execs _ _) _ _ _
  refine wpAny_execs_cons (plainObj_wpAny_Assign_Attribute ?_)
  refine ldLoc (v := v0) hn0 (by first | rfl | with_unfolding_all rfl | kernel_rfl) (ldLoc (v := .ref x) hn0 (by first | rfl | with_unfolding_all rfl | kernel_rfl) ?_)
  refine set_plain X0 (ox := HandSPX.excO C t0) (od := none) ⟨hx0, rfl, rfl, trivial⟩ T.sa ?_
  refine storeNew T.toEC X0 hx0 T.n0 (fun h2 tk2 dx k2 dn dne hx1 ns1 => ?_)
  have X1 : K.In h2 := fun a o e => k2 a o (fun z => by rw [z, hnx] at e; cases e) (X0 a o e)
  have hn1 : h2.Ns s.heap.objs.size _ := let ⟨o, es, ep, e, r⟩ := hn0; ⟨o, es, ep, k2 _ _ hxL e, r⟩
  show wpAny _ _ (execs _ _) _ _ _
  refine wpAny_execs_cons (plainObj_wpAny_Assign_Attribute ?_)
  refine ldLoc (v := v1) hn1 (by first | rfl | with_unfolding_all rfl | kernel_rfl) (ldLoc (v := .ref x) hn1 (by first | rfl | with_unfolding_all rfl | kernel_rfl) ?_)
  have dnL : s.heap.objs.size ≠ dx := Nat.ne_of_lt (Nat.lt_of_lt_of_le hn0.lt dn)
  obtain ⟨oD1, hoD1, _⟩ := L2.lookIn_ns ns1
  refine set_plain X1 (ox := { cls := .ref C, dict := some dx, data := .fields #[.ref t0, .none, .none, .none, .bool false, .none] }) (od := some oD1) ⟨hx1, rfl, rfl, hoD1⟩ T.sa ?_
  refine storeMore T.toEC X1 hx1 ns1 (Within.cons "index" v0 Within.nil) (by show 1 ≤ 1000; decide) T.n1 (fun h3 tk3 k3 ns2 => ?_)
  show wpAny _ _ (execs _ _) _ _ _
  refine wpAny_execs_nil (hq h3 tk3 dx (fun b o hb e => k3 b o (fun z => ?_) (k2 b o hb (k b o e))) (k3 _ _ (Ne.symm dne) hx1) (Nat.le_of_lt (Nat.lt_of_lt_of_le hn0.lt dn)) dne ns2)
  rw [z] at e
  exact absurd (Nat.lt_trans (Heap.lt_size e) (Nat.lt_of_lt_of_le hn0.lt dn)) (Nat.lt_irrefl _)
theorem madeBrR {prog : Program} {w : World} {A : Around} {R : Result → Shared → Prop} {s : Shared} {K : Frag} {C fI : Addr} {B newId initId : String} {bmB : List Value} {v0 v1 : Value}
    (T : ClsBr K C fI B newId initId bmB) (X : K.In s.heap) (hlim : s.heap.NoLimit) (hroom : A.depth + 1 < recursionLimit)
    (hq : ∀ h' tk e d, Made s.heap h' e C d (fun (y : Str) => if y = "shown" then some v1 else if y = "index" then some v0 else none) → R (.ok (.ret (.ref e))) { s with heap := h', toks := tk }) :
    codeAny (model prog w) A (.call (.ref C) ⟨[], [("shown", v1), ("index", v0)]⟩) R s := by
  obtain ⟨hp, g, dr, tk, os⟩ := s
  have k : ∀ b o, hp.get? b = some o → ((hp.push (kdv_tup [])).push (HandSPX.excO C hp.objs.size)).get? b = some o := fun b o e => Heap.get?_push_of_some _ (Heap.get?_push_of_some _ e)
  have hget : ((hp.push (kdv_tup [])).push (HandSPX.excO C hp.objs.size)).get? (hp.objs.size + 1) = some (HandSPX.excO C hp.objs.size) := by heap_get
  refine madeBy T.toEC X T.iC T.tC (by rw [sizeLine_eq]; simp) ?_
  refine initBrR (s := ⟨(hp.push (kdv_tup [])).push (HandSPX.excO C hp.objs.size), g, dr, tk, os⟩) T (X.keeps k) (hlim.keeps k) hget (noneOf X (Nat.le_succ _)) ?_ (fun h' tk' dx k' hx dn dne hns => ?_)
  · show A.depth + 1 < recursionLimit
    exact hroom
  · have old : ∀ b o, hp.get? b = some o → h'.get? b = some o := fun b o e => k' b o (Nat.ne_of_lt (Nat.lt_succ_of_lt (Heap.lt_size e))) (k b o e)
    have z : hp.objs.size ≤ dx := by
      have q := dn
      simp only [Heap.size_push] at q
      omega
    exact ⟨rfl, hq h' tk' (hp.objs.size + 1) dx ⟨old, Nat.le_succ _, ⟨_, hx⟩, z, dne, hns⟩⟩
def argsNo (p0 : Pos) : Arguments := { posonlyargs := [], args := [{ arg := "self", annotation := none, pos := p0 }], vararg := none, kwonlyargs := [], kw_defaults := [], kwarg := none, defaults := [] }
def bodyNo (q0 : Pos) : List Stmt := [.Pass q0]
def scopeNo : Scope := { kind := .function, names := [(PySem.Str.ofString "self", .local)], isGenerator := false, isCoroutine := false, more := [] }
/-- the class at C, its __init__ at fI -/
structure ClsNo (K : Frag) (C fI : Addr) (B newId initId : String) (bmB : List Value) : Prop extends EC K C B newId initId bmB where
  iC : findIn K (.ref C) "__init__" = some (some (.ref fI))
  tC : typeIn K (.ref fI) = some (.type "function")
  fn : ∃ (oc : Value) (od : Option Addr) (doc pm kV : Value) (an : Option Addr) (cdv ct : Value) (osl : Array (Option Value)) (qual : Str) (p0 q0 : Pos),
    K.lookup fI = some ⟨oc, od, .func (fnOf "__init__" qual (argsNo p0) (bodyNo q0) scopeNo .none kV doc pm an cdv ct), osl⟩ ∧ codeIn K cdv qual = true
theorem initNoP {prog : Program} {w : World} {A : Around} {R : Result → Shared → Prop} {s : Shared} {K : Frag} {C fI x t0 : Addr} {B newId initId : String} {bmB : List Value} 
    (T : ClsNo K C fI B newId initId bmB) (X : K.In s.heap) (hlim : s.heap.NoLimit) (hx : s.heap.get? x = some (HandSPX.excO C t0)) (hnx : K.lookup x = none) (hroom : A.depth < recursionLimit)
    (hq : ∀ h' tk, (∀ b o, s.heap.get? b = some o → h'.get? b = some o) → R (.ok (.ret .none)) { s with heap := h', toks := tk }) :
    codeAny (model prog w) A (.call (.ref fI) ⟨[.ref x], []⟩) R s := by
  obtain ⟨oc, od, doc, pm, kV, an, cdv, ct, osl, qual, p0, q0, ho, hcd⟩ := T.fn
  refine Att.call_fn (binds := [("self", .ref x)]) X hlim ho hcd hroom (PySem.BindsTo.of_eq (by first | rfl | with_unfolding_all rfl)) (by first | rfl | decide | with_unfolding_all rfl) (fun s1 IC => ?_) rfl rfl rfl
  obtain ⟨h1, tk1, rfl⟩ := IC.toInCall.same
  have k : ∀ b o, s.heap.get? b = some o → h1.get? b = some o := IC.toInCall.keep
  have hn0 := IC.toInCall.ns
  have hxL : s.heap.objs.size ≠ x := Nat.ne_of_gt (Heap.lt_size hx)
  have X0 : K.In h1 := X.keeps k
  have hx0 := k _ _ hx

  show wpAny _ _ (execs _ _) _ _ _
  refine wpAny_execs_cons (wpAny_Pass ?_)
  show wpAny _ _ (execs _ _) _ _ _
  exact wpAny_execs_nil (hq h1 tk1 k)
theorem madeNoP {prog : Program} {w : World} {A : Around} {R : Result → Shared → Prop} {s : Shared} {K : Frag} {C fI : Addr} {B newId initId : String} {bmB : List Value} 
    (T : ClsNo K C fI B newId initId bmB) (X : K.In s.heap) (hlim : s.heap.NoLimit) (hroom : A.depth + 1 < recursionLimit)
    (hq : ∀ h' tk e, (∀ b o, s.heap.get? b = some o → h'.get? b = some o) → s.heap.objs.size ≤ e → (∃ t1 : Addr, h'.get? e = some { cls := .ref C, data := .fields #[.ref t1, .none, .none, .none, .bool false, .none] }) → R (.ok (.ret (.ref e))) { s with heap := h', toks := tk }) :
    codeAny (model prog w) A (.call (.ref C) ⟨[], []⟩) R s := by
  obtain ⟨hp, g, dr, tk, os⟩ := s
  have k : ∀ b o, hp.get? b = some o → ((hp.push (kdv_tup [])).push (HandSPX.excO C hp.objs.size)).get? b = some o := fun b o e => Heap.get?_push_of_some _ (Heap.get?_push_of_some _ e)
  have hget : ((hp.push (kdv_tup [])).push (HandSPX.excO C hp.objs.size)).get? (hp.objs.size + 1) = some (HandSPX.excO C hp.objs.size) := by heap_get
  refine madeBy T.toEC X T.iC T.tC (by rw [sizeLine_eq]; simp) ?_
  refine initNoP (s := ⟨(hp.push (kdv_tup [])).push (HandSPX.excO C hp.objs.size), g, dr, tk, os⟩) T (X.keeps k) (hlim.keeps k) hget (noneOf X (Nat.le_succ _)) ?_ (fun h' tk' k' => ?_)
  · show A.depth + 1 < recursionLimit
    exact hroom
  · exact ⟨rfl, hq h' tk' (hp.objs.size + 1) (fun b o e => k' b o (k b o e)) (Nat.le_succ _) ⟨_, k' _ _ hget⟩⟩
end XC

set_option Elab.async false
set_option maxRecDepth 100000
set_option maxHeartbeats 4000000
/-! The same over the layer: readings of a class's call, of a field, of isinstance. -/
namespace L2.XK
open PySem PySem.Spec PyProof.Rows XC
section
variable {X : Cx} {pins : List (Addr × Obj)} {σ : St} {H1 : Hp} {s1 : Shared}

theorem laidExc {h' : Heap} {e C d : Addr} {m : Str → Option Value} {fs : List (Str × V)} {tk' : Nat} (I1 : Inv X pins σ H1 s1)
    (M : Made s1.heap h' e C d m) (r : ∀ f, RelO (fs.lookup f) (m f)) :
    Inv X pins σ (upd (upd H1 d (.xd fs)) e (exo e C (some d))) { s1 with heap := h', toks := tk' } ∧ H1 e = none ∧ H1 d = none := by
  obtain ⟨t1, hoe⟩ := M.obj
  have he : H1 e = none := I1.hok.fresh M.new
  have hd : H1 d = none := I1.hok.fresh M.dbig
  obtain ⟨G, g1, g2⟩ := L2.restrict h' fun b => decide (b ≠ e)
  have gk : ∀ b, b ≠ e → G.get? b = h'.get? b := fun b hb => g1 b (decide_eq_true hb)
  have ge : G.get? e = none := g2 e (by simp)
  have old : ∀ b o, s1.heap.get? b = some o → G.get? b = some o := fun b o q => by
    refine (gk b ?_).trans (M.keep b o q)
    exact Nat.ne_of_lt (Nat.lt_of_lt_of_le (Heap.lt_size q) M.new)
  have ob : ObjOk X.prog X.w (upd H1 d (.xd fs)) G d (.xd fs) :=
    ⟨m, M.ns.at (fun o q => (gk d M.dne).trans q), r⟩
  have J : Inv X pins σ (upd H1 d (.xd fs)) { s1 with heap := G, toks := tk' } := I1.laid (t' := tk') old M.dbig ob
  have he2 : (upd H1 d (.xd fs)) e = none := by
    rw [upd_ne (Ne.symm M.dne)]
    exact he
  refine ⟨?_, he, hd⟩
  refine Inv.laidN (s := { s1 with heap := G, toks := tk' }) (h' := h') (t' := tk') J (fun b u q => ?_) ge he2 (exo_ok hoe)
  have hb : b ≠ e := fun z => by
    have q' : G.get? b = some u := q
    rw [z, ge] at q'
    cases q'
  exact (gk b hb).symm.trans q

/-- C(..): vs the values in the order written -/
def tNew (C : Addr) (fsOf : List V → Option (List (Str × V))) (ta : TA) : TE := fun σ H Q => ta σ H fun vs H1 => ∃ fs, fsOf vs = some fs ∧
  ∀ a d, H1 a = none → H1 d = none → d ≠ a → Q (.ref a) (upd (upd H1 d (.xd fs)) a (exo a C (some d)))

/-- what a class's maker gives: n values us, by position and behind the names ks -/
def Maker (X : Cx) (C : Addr) (n : Nat) (ks : List Str) (fsOf : List V → Option (List (Str × V))) : Prop :=
  ∀ (s1 : Shared) (vs : List V) (us ws : List Value) (fs : List (Str × V)) (R : Result → Shared → Prop), X.K.In s1.heap → s1.heap.NoLimit →
    us.length = n → ws.length = ks.length → Vals vs (us ++ ws) → fsOf vs = some fs →
    (∀ h' tk e d m, Made s1.heap h' e C d m → (∀ f, RelO (fs.lookup f) (m f)) → R (.ok (.ret (.ref e))) { s1 with heap := h', toks := tk }) →
    codeAny (model X.prog X.w) X.A (.call (.ref C) ⟨us, ks.zip ws⟩) R s1

theorem pe_newP {C : Addr} {n : Nat} {x : Str} {p pos : Pos} {e : Expr} {es : List Expr} {ta : TA} {fsOf : List V → Option (List (Str × V))}
    (mk : Maker X C n [] fsOf) (hl : ∀ vs fs, fsOf vs = some fs → vs.length = n) (kC : PySem.W.keepIn X.K (.ref C) = true) (gC : X.mg x = some (.ref C)) (ha : PA X (e :: es) ta) (hg : Gl X x := by rfl)
    (hdb : (x == ("__debug__" : Str)) = false := by decide)
    (he : starEach (e :: es) X.env = (false, eval e X.env) :: starEach es X.env := by rfl) (hpl : (backTo pos (starEach es X.env)).any (·.1) = false := by rfl) :
    PE X (.Call (.Name x p) (e :: es) [] pos) (tNew C fsOf ta) := by
  refine ⟨fun pins s σ H Q I h => ?_⟩
  refine wpAny_Call_Name_kw (ld_glob I hg gC ?_ hdb)
  refine PySem.W.callWith_K (h₀ := X.base) I.ok.mod.kin kC (thn (ha.run pos pins s σ H _ I h) fun us s1 hh => ?_) he hpl
  obtain ⟨vs, H1, I1, r1, fs, ef, q1⟩ := hh
  refine ⟨I1.kIn, ?_⟩
  show wpAny _ _ (call (.ref C) us) _ _ _
  refine wpAny_call (mk s1 vs us [] fs _ I1.kIn I1.nolimit ?_ rfl (by rw [List.append_nil]; exact r1) ef fun h' tk e d m M r => ?_)
  · rw [← r1.length]
    exact hl vs fs ef
  · obtain ⟨J, he, hd⟩ := laidExc (tk' := tk) I1 M r
    exact ⟨.ref e, _, J, rfl, q1 e d he hd M.dne⟩

theorem pe_newK {C : Addr} {ks : List Str} {x : Str} {p pos : Pos} {kws : List Keyword} {tk : TA} {fsOf : List V → Option (List (Str × V))}
    (mk : Maker X C 0 ks fsOf) (hl : ∀ vs fs, fsOf vs = some fs → vs.length = ks.length) (kC : PySem.W.keepIn X.K (.ref C) = true) (gC : X.mg x = some (.ref C)) (hkw : PK X kws tk) (hg : Gl X x := by rfl)
    (hdb : (x == ("__debug__" : Str)) = false := by decide)
    (hall : (backToKw pos (keywordEach kws X.env)).all (·.1.isSome) = true := by rfl) (hks : (backToKw pos (keywordEach kws X.env)).filterMap (·.1) = ks := by rfl)
    (hpl : ((backTo pos (starEach [] X.env)).any (·.1) || (backToKw pos (keywordEach kws X.env)).any (·.1.isNone)) = false := by rfl) :
    PE X (.Call (.Name x p) [] kws pos) (tNew C fsOf tk) := by
  refine ⟨fun pins s σ H Q I h => ?_⟩
  refine wpAny_Call_Name_kw (ld_glob I hg gC ?_ hdb)
  refine PySem.W.callWith_KW0 (h₀ := X.base) I.ok.mod.kin kC hall ?_ hpl
  refine thn (hkw.run pos pins s σ H _ I h) fun ws s1 hh => ?_
  obtain ⟨vs, H1, I1, r1, fs, ef, q1⟩ := hh
  refine ⟨I1.kIn, ?_⟩
  rw [hks]
  show wpAny _ _ (call (.ref C) [] (ks.zip ws)) _ _ _
  refine wpAny_call (mk s1 vs [] ws fs _ I1.kIn I1.nolimit rfl ?_ r1 ef fun h' tk e d m M r => ?_)
  · rw [← r1.length]
    exact hl vs fs ef
  · obtain ⟨J, he, hd⟩ := laidExc (tk' := tk) I1 M r
    exact ⟨.ref e, _, J, rfl, q1 e d he hd M.dne⟩

/-- C() of a class whose __init__ stores nothing -/
theorem pe_new0 {C fI : Addr} {B newId initId : String} {bmB : List Value} {x : Str} {p pos : Pos} {k : Nat}
    (T : ClsNo X.K C fI B newId initId bmB) (hr : Room k X.A) (gC : X.mg x = some (.ref C)) (hg : Gl X x := by rfl) (hdb : (x == ("__debug__" : Str)) = false := by decide) :
    PE X (.Call (.Name x p) [] [] pos) (fun σ H Q => ∀ a, H a = none → Q (.ref a) (upd H a (exo a C none))) := by
  refine ⟨fun pins s σ H Q I h => ?_⟩
  refine wpAny_Call_Name_kw (ld_glob I hg gC ?_ hdb)
  refine PySem.W.callWith_K0 I.kIn T.kC ?_
  show wpAny _ _ (call (.ref C) []) _ _ _
  refine wpAny_call (madeNoP T I.kIn I.nolimit (by have := hr.dp; omega) fun h' tk e k hn ho => ?_)
  obtain ⟨t1, ho⟩ := ho
  exact ⟨.ref e, _, I.laid (t' := tk) k hn (exo_ok ho), rfl, h e (I.hok.fresh hn)⟩

/-- e.f, e an exception -/
def tXFld (K : PySem.W.Frag) (f : Str) (te : TE) : TE := fun σ H Q => te σ H fun x H1 => ∃ (a C d : Addr) (fs : List (Str × V)) (v : V), x = .ref a ∧ H1 a = some (exo a C (some d)) ∧ H1 d = some (.xd fs) ∧ fs.lookup f = some v ∧
  (∃ B newId initId bmB, EC K C B newId initId bmB) ∧ PySem.W.findIn K (.ref C) f = some none ∧ Q v H1
theorem pe_xfld {e : Expr} {te : TE} {f : Str} {pos : Pos} (he : PE X e te) (hb : attributeBase e f X.env (eval e X.env) = eval e X.env := by rfl) :
    PE X (.Attribute e f pos) (tXFld X.K f te) := by
  refine ⟨fun pins s σ H Q I h => ?_⟩
  refine attr_of hb (thn (he.run pins s σ H _ I h) fun u s1 hh => ?_)
  obtain ⟨x, H1, I1, rx, a, C, d, fs, v, ex, ea, ed, el, ⟨B, newId, initId, bmB, T⟩, nf, q⟩ := hh
  subst ex
  obtain rfl : u = Value.ref a := rx
  obtain ⟨t1, ha⟩ := exo_at I1.hok ea
  obtain ⟨mA, hns, hr⟩ := (show ObjOk X.prog X.w H1 s1.heap d (.xd fs) from I1.hok d _ ed)
  obtain ⟨od, ho, hl⟩ := lookIn_ns hns
  obtain ⟨u, hu, ru⟩ := RelO.some_of (v := v) (o := mA f) (by rw [← el]; exact hr f)
  have J : PySem.W.InstAt s1.heap a _ C (some od) := ⟨ha, rfl, rfl, ho⟩
  exact HandSPX.exc_get I1.kIn J T.ga T.gg T.exC (PySem.W.findObj_own T.hd nf rfl (by rw [hl, hu])) (handed_of ru) ⟨v, H1, I1.tok _, ru, q⟩

/-- what isinstance asks of the class -/
structure XIs (K : PySem.W.Frag) (C : Addr) : Prop where
  cl : (PySem.W.clsIn K C).isSome = true
  ga : PySem.W.findIn K (.ref C) "__getattribute__" = some (some (.builtin "BaseException.__getattribute__"))
  gg : PySem.W.findIn K (.ref C) "__getattr__" = some none
  exC : PySem.W.subIn K (.ref C) (.type "BaseException") = some true
  cC : PySem.W.findIn K (.ref C) "__class__" = some (some (.builtin "object.__class__"))
  hn : PySem.W.specialIn K (.builtin "object.__class__") "__get__" = some (some (.builtin "getset_descriptor.__get__"))
  tk : PySem.W.takesIn K (.builtin "object.__class__") = some true
  mo : PySem.W.mroIn K C (.type "object") = some true
/-- isinstance(e, T), e an exception that was made, T one class -/
def rIsX (K : PySem.W.Frag) : List V → Hp → VK → Prop := fun xs H Q => ∃ (a C : Addr) (d : Option Addr) (c : V) (u : Value) (b : Bool), xs = [.ref a, c] ∧ H a = some (exo a C d) ∧
  (∀ z, d = some z → ∃ fs, H z = some (.xd fs)) ∧ XIs K C ∧ ClsV c u ∧ PySem.W.kitOne K (.ref C) u = some b ∧ Q (.bl b) H
theorem call_isX : CallR X (.builtin "isinstance") (rIsX X.K) := by
  intro pins s σ H xs us Q I r h
  obtain ⟨a, C, d, c, u, b, rfl, ea, ed, T, k, e, q⟩ := h
  obtain ⟨u1, u2, rfl, r1, r2⟩ := vals2 r
  have e2 := k.eq r2
  subst e2
  cases (show u1 = Value.ref a from r1)
  obtain ⟨t1, ha⟩ := exo_at I.hok ea
  cases d with
  | none =>
    have J : PySem.W.InstAt s.heap a _ C none := ⟨ha, rfl, rfl, trivial⟩
    exact PySem.W.kia_one (PySem.W.kitx_exc T.cl T.ga T.gg T.exC T.cC T.hn T.tk T.mo) I.kIn J e (fun z => nomatch z) fun tk => ⟨.bl b, H, I.tok tk, rfl, q⟩
  | some d =>
    obtain ⟨fs, ez⟩ := ed d rfl
    obtain ⟨mA, hns, hr⟩ := (show ObjOk X.prog X.w H s.heap d (.xd fs) from I.hok d _ ez)
    obtain ⟨od, ho, hl⟩ := lookIn_ns hns
    have J : PySem.W.InstAt s.heap a _ C (some od) := ⟨ha, rfl, rfl, ho⟩
    exact PySem.W.kia_one (PySem.W.kitx_exc T.cl T.ga T.gg T.exC T.cC T.hn T.tk T.mo) I.kIn J e (fun z => nomatch z) fun tk => ⟨.bl b, H, I.tok tk, rfl, q⟩
end
end L2.XK

set_option Elab.async false
set_option maxRecDepth 100000
set_option maxHeartbeats 4000000
/-! A def's promise where nothing of the machine's own guards is under way (repr asks that), down to the law's end; repr of data. -/
namespace L2.XK
open PySem PySem.Spec PyProof.Rows XC

/-- the module table's object is part of the base -/
def Sys (base : Heap) : Prop := ∃ o, base.get? sysModules = some o

/-- FnOk, for calls with no guard under way -/
structure FnG (P : Program) (w : World) (K : PySem.W.Frag) (mg : Str → Option Value) (base : Heap) (k : Nat) (f : Addr) (fd : FuncData)
    (ps : List Str) (sp : Sp) : Prop where
  len : ∀ vs H Q E, sp vs H Q E → vs.length = ps.length
  run : ∀ (A : Around) (outer : List Env) (s : Shared) (H : Hp) (args : Args) (us : List Value) (vs : List V) (Q : VK) (E : XK), Room k A →
    A.guards = some [] → Env0 P w K mg base A outer s H → BindsTo s fd args (ps.zip us) → Vals vs us → sp vs H Q E →
    codeAny (model P w) A (.call (.ref f) args) (CR CX0 outer P w H s Q E) s
section
variable {P : Program} {w : World} {K : PySem.W.Frag} {mg : Str → Option Value} {base : Heap}
theorem Fun.okG {x qual : Str} {st : Stmt} {f : Addr} {fd : FuncData} {N ps : List Str} {k : Nat} {sp : Sp} (F : Fun K x qual st f fd)
    (S : FnScope N ps (defScope st)) (len : ∀ vs H Q E, sp vs H Q E → vs.length = ps.length)
    (hbody : ∀ (cdv : Value) (A : Around) (outer : List Env) (s : Shared) (H : Hp) (vs : List V) (Q : VK) (E : XK),
      Room k (A.deeper (envOfC qual (defScope st) s.heap.objs.size f cdv)) →
      (A.deeper (envOfC qual (defScope st) s.heap.objs.size f cdv)).guards = some [] → sp vs H Q E →
      ∃ t, PSs (cxOf CX0 P w K mg base N qual (defScope st) f cdv A outer s H E).nox (defBody st) t ∧
        t { nx := fun _ H' => Q .non H', rt := Q } (start N vs) H) : FnG P w K mg base (k + 1) f fd ps sp := by
  obtain ⟨oc, od, kV, doc, pm, an, cdv, ct, osl, rfl, lk, hcd⟩ := F.ex
  refine ⟨len, fun A outer s H args us vs Q E hr hg e0 hb r hsp => ?_⟩
  have hl := len _ _ _ _ hsp
  have keep : ∀ b o, base.get? b = some o → s.heap.get? b = some o := fun b o e => (e0.bs b o e).1
  have KX : K.In s.heap := e0.mod.kin.keeps keep
  have lim : s.heap.NoLimit := e0.mod.nolimit.keeps keep
  have kinds : ∀ y ∈ ps.zip us, (defScope st).names.lookup y.1 = some .local ∨
      ((defScope st).names.lookup y.1 = some .cell ∧ ((cellsFrom (s.heap.objs.size + 1) (defScope st).names []).lookup y.1).isSome = true) := by
    rintro ⟨n, v⟩ hy
    rcases S.par n (List.of_mem_zip hy).1 with q | q
    · exact .inl q
    · exact .inr ⟨q, PySem.W.cellsFrom_some _ _ _ (.inl q)⟩
  refine codeAny_call_function hr.depth (KX _ _ lk) rfl S.co S.gen rfl (PySem.W.codeRec_of KX hcd) (hb _ _ _ _ ?_)
  refine wpAny_newFunctionEnv_cells S.kind kinds fun env he s1 x => ?_
  subst he
  refine ⟨lim.keeps x.toInCall.keep, codeAny_func ?_⟩
  obtain ⟨t, ht, hq⟩ := hbody cdv A outer s H vs Q E (hr.deeper _) hg hsp
  have I := inv_start (CX := CX0) (E := E) S hr.hd e0 hl r x
  refine wpAny_mono (ht.nox.run [] s1 (start N vs) H _ I hq) (fun fl s' hs => ?_) fun e s' hs => hs
  cases fl with
  | ret u =>
    obtain ⟨v, σ', H', J, rv, q⟩ := hs
    exact ⟨v, H', J.os, J.bare, J.base, J.hok, rv, q⟩
  | next =>
    obtain ⟨σ', H', J, q⟩ := hs
    exact ⟨V.non, H', J.os, J.bare, J.base, J.hok, rfl, q⟩
  | brk =>
    obtain ⟨_, _, _, q⟩ := hs
    exact q.elim
  | cont =>
    obtain ⟨_, _, _, q⟩ := hs
    exact q.elim
end

section
variable {X : Cx} {k : Nat} {f : Addr} {fd : FuncData} {ps : List Str} {sp : Sp} {x : Str} {p pos : Pos} {e : Expr} {es : List Expr} {t : TA}
theorem pe_callG (F : FnG X.prog X.w X.K X.mg X.base k f fd ps sp) (hr : Room k X.A) (hgd : X.A.guards = some []) (hg : Gl X x)
    (hm : X.mg x = some (.ref f)) (hk : PySem.W.keepIn X.K (.ref f) = true) (hb : Binds X.K fd ps [])
    (ha : PA X (e :: es) t) (hdb : (x == ("__debug__" : Str)) = false := by decide)
    (he : starEach (e :: es) X.env = (false, eval e X.env) :: starEach es X.env := by rfl)
    (hpl : (backTo pos (starEach es X.env)).any (·.1) = false := by rfl) :
    PE X (.Call (.Name x p) (e :: es) [] pos) (tCall sp [] E0 t) := by
  refine ⟨fun pins s σ H Q I h => ?_⟩
  refine wpAny_Call_Name_kw (ld_glob I hg hm ?_ hdb)
  refine PySem.W.callWith_K (h₀ := X.base) I.ok.mod.kin hk ?_ he hpl
  refine thn (ha.run pos pins s σ H _ I h) fun us s1 ⟨vs, H1, I1, r, q0⟩ => ⟨I1.kIn, ?_⟩
  have q : sp (vs ++ []) H1 Q E0 := q0
  rw [List.append_nil] at q
  have hl : us.length = ps.length := by
    rw [← r.length]
    exact F.len _ _ _ _ q
  have hbb := hb s1 us I1.kIn (by rw [List.append_nil]; exact hl)
  rw [List.append_nil] at hbb
  refine wpAny_call (codeAny_mono (F.run X.A X.stack s1 H1 ⟨us, []⟩ us vs Q E0 hr hgd I1.env0 hbb r q) fun r s' hq => ?_)
  cases r with
  | error e => exact hq.elim
  | ok fl =>
    cases fl with
    | ret u => exact I1.after hq
    | next => exact hq.elim
    | brk => exact hq.elim
    | cont => exact hq.elim
theorem pe_callG0 (F : FnG X.prog X.w X.K X.mg X.base k f fd ps sp) (hr : Room k X.A) (hgd : X.A.guards = some []) (hg : Gl X x)
    (hm : X.mg x = some (.ref f)) (hk : PySem.W.keepIn X.K (.ref f) = true) (hb : Binds X.K fd ps [])
    (hdb : (x == ("__debug__" : Str)) = false := by decide) : PE X (.Call (.Name x p) [] [] pos) (tCall sp [] E0 tNil) := by
  refine ⟨fun pins s σ H Q I h => ?_⟩
  refine wpAny_Call_Name_kw (ld_glob I hg hm ?_ hdb)
  refine PySem.W.callWith_K0 I.kIn hk ?_
  have q : sp [] H Q E0 := h
  have hbb := hb s [] I.kIn (by simpa using F.len _ _ _ _ q)
  refine wpAny_call (codeAny_mono (F.run X.A X.stack s H ⟨[], []⟩ [] [] Q E0 hr hgd I.env0 hbb .nil q) fun r s' hq => ?_)
  cases r with
  | error e => exact hq.elim
  | ok fl =>
    cases fl with
    | ret u => exact I.after hq
    | next => exact hq.elim
    | brk => exact hq.elim
    | cont => exact hq.elim
end

/-- the law's own call: nothing but the script is tracked, the module table stands in the base -/
theorem lawG {P : Program} {w : World} {K : PySem.W.Frag} {mg mb : Str → Option Value} {k : Nat} {fa a : Addr} {fd : FuncData} {x : Str} {sp : Sp}
    {s1 : Shared} {vs : List Value} {ns : List Int}
    (KX : K.In s1.heap) (hns : s1.heap.Ns mainGlobals mg) (hb : s1.heap.Ns builtinsNs mb) (hbb : ∀ x : Str, x ≠ "__name__" → mb x = bootBuiltins x)
    (hlim : s1.heap.NoLimit) (hsy : ∃ mm, s1.heap.Ns sysModules mm) (hg : s1.gens = #[])
    (ha : s1.heap.get? a = some { cls := .type "list", data := .seq vs.toArray }) (hi : IntsAre vs ns) (hl : ns.length ≤ sizeLine) (hr : Room k callerA)
    (F : ∀ base : Heap, K.In base → base.Ns mainGlobals mg → Sys base → FnG P w K mg base k fa fd [x] sp)
    (hbind : ∀ (s : Shared) (u : Value), BindsTo s fd ⟨[u], []⟩ [(x, u)])
    (hsp : ∀ H : Hp, Only H → SqL K H a (ns.map V.int) → sp [.ref a] H (fun v _ => v = .bl true) fun _ _ _ => False) :
    codeAny (model P w) callerA (.call (.ref fa) ⟨[.ref a], []⟩)
      (fun r s' => r = .ok (.ret (.bool true)) ∧ OldK s1.heap s'.heap ∧ s'.os = s1.os ∧ AllBare s'.gens) s1 := by
  have rv := vals_ints hi
  have lenV := hi.length
  have go : ∀ H : Hp, Only H → SqL K H a (ns.map V.int) → HOk P w H s1.heap → (∀ b, H b ≠ none → b = a ∧ K.lookup a = none) →
      codeAny (model P w) callerA (.call (.ref fa) ⟨[.ref a], []⟩)
        (fun r s' => r = .ok (.ret (.bool true)) ∧ OldK s1.heap s'.heap ∧ s'.os = s1.os ∧ AllBare s'.gens) s1 := by
    intro H hO hS hok only
    have free : ∀ {b : Addr}, b ≠ a → H b = none := fun {b} hb => by
      cases q : H b with
      | none => rfl
      | some u => exact absurd (only b (by rw [q]; simp)).1 hb
    have notA : ∀ {b : Addr} {o : Obj} {es : Array DictEntry} {ep : Nat}, s1.heap.get? b = some o → o.data = .dict es ep → b ≠ a := by
      rintro b o es ep e d rfl
      rw [ha] at e
      cases e
      cases (show Data.seq vs.toArray _ = Data.dict es ep from d)
    have nsB : ∀ {b : Addr} {m : Str → Option Value}, s1.heap.Ns b m → (hidT s1.heap H).Ns b m := by
      rintro b m ⟨o, es, ep, e, d, r⟩
      exact ⟨o, es, ep, hidT_get e (free (notA e d)), d, r⟩
    have kB : K.In (hidT s1.heap H) := fun b o e => hidT_get (KX b o e) (by
      cases q : H b with
      | none => rfl
      | some u =>
        obtain ⟨rfl, z⟩ := only b (by rw [q]; simp)
        rw [z] at e
        cases e)
    have hM : Mod K mg (hidT s1.heap H) := by
      refine ⟨kB, nsB hns, ⟨mb, nsB hb, hbb⟩, ?_⟩
      obtain ⟨mc, h1, h2⟩ := hlim
      exact ⟨mc, nsB h1, h2⟩
    have hS0 : Sys (hidT s1.heap H) := by
      obtain ⟨mm, q⟩ := hsy
      obtain ⟨o, _, _, e, _⟩ := nsB q
      exact ⟨o, e⟩
    have e0 : Env0 P w K mg (hidT s1.heap H) callerA [] s1 H := by
      refine ⟨rfl, hM, fun b o e => of_hidT e, Nat.le_of_eq (hidT_size _ _), trivial, ?_, hok, .of_eq hg⟩
      intro b hb
      exact absurd (show b ∈ ([] : List Addr) from hb) (by simp)
    refine codeAny_mono ((F _ kB (nsB hns) hS0).run callerA [] s1 H ⟨[.ref a], []⟩ [.ref a] [.ref a] _ _ hr rfl e0 (hbind s1 (.ref a)) (.cons rfl .nil) (hsp H hO hS)) fun r s' h => ?_
    cases r with
    | error e => exact h.elim
    | ok fl =>
      cases fl with
      | next => exact h.elim
      | brk => exact h.elim
      | cont => exact h.elim
      | ret u =>
        obtain ⟨v, H', os, bare, un, hok', r', q⟩ := h
        have q' : v = .bl true := q
        subst q'
        obtain rfl : u = Value.bool true := r'
        refine ⟨rfl, OldK.of_keep fun b o e => ?_, os, bare⟩
        by_cases hba : H b = none
        · exact un.keep b o e hba (by intro z; exact absurd (show b ∈ ([] : List Addr) from z) (by simp)) (by simp)
        · rcases hO b with z | ⟨ob, xs, z⟩
          · exact absurd z hba
          · obtain ⟨e1, _⟩ := hok b _ z
            obtain ⟨e2, _⟩ := hok' b _ (un.frzs b ob _ z)
            exact e2.trans (e1.symm.trans e)
  cases hk : K.lookup a with
  | some o =>
    have e := KX a o hk
    rw [ha] at e
    cases e
    have hS : SqL K (fun _ => none) a (ns.map V.int) :=
      .inr ⟨_, vs.toArray, _, hk, rfl, rfl, rfl, by rw [List.size_toArray, lenV]; exact hl, by simpa using rv⟩
    exact go (fun _ => none) (fun _ => .inl rfl) hS (fun b u z => nomatch z) fun b z => absurd rfl z
  | none =>
    have at_ : ∀ b : Addr, b = a ∨ (fun b => if b = a then some (HO.frz { cls := .type "list", data := .seq vs.toArray } (.lst (ns.map V.int))) else none) b = none := fun b => by
      by_cases hb : b = a
      · exact .inl hb
      · exact .inr (if_neg hb)
    refine go (fun b => if b = a then some (.frz { cls := .type "list", data := .seq vs.toArray } (.lst (ns.map V.int))) else none) (fun b => ?_) (.inl (.inr ⟨_, if_pos rfl⟩)) (fun b u z => ?_) fun b z => ?_
    · rcases at_ b with rfl | q
      · exact .inr ⟨_, _, if_pos rfl⟩
      · exact .inl q
    · rcases at_ b with rfl | q
      · have z' := (if_pos rfl).symm.trans z
        cases z'
        exact ⟨ha, by rw [List.length_map]; exact hl, vs, _, rv, ha⟩
      · rw [q] at z
        cases z
    · rcases at_ b with rfl | q
      · exact ⟨rfl, hk⟩
      · exact absurd q z

/-- the goal that k_head leaves -/
theorem walkG {l : PySem.W.OpenLaw} {n k : Nat} {q : Program} {loose : List Str} {XP : (Str → Option Value) → Heap → Prop} {YP : World → Heap → Prop} {d : DefRec}
    {K : Params → PySem.W.Frag} {sp : World → Sp} {x : Str}
    (hn : l.most = some n) (hn2 : n ≤ sizeLine) (hdf : d.params.defaults = []) (hr : Room k callerA) (himp : importsNone q = true)
    (hY : ∀ (w : World) (h : Heap), YP w h → (K w.params).In h)
    (F : ∀ (w : World) (mg : Str → Option Value) (fa : Addr) (h : Heap), (K w.params).In h → h.Ns mainGlobals mg → mg d.name = some (.ref fa) →
      ∃ fd : FuncData, (∀ (s : Shared) (u : Value), BindsTo s fd ⟨[u], []⟩ [(x, u)]) ∧
        ∀ base : Heap, (K w.params).In base → base.Ns mainGlobals mg → Sys base → FnG l.prog w (K w.params) mg base k fa fd [x] (sp w))
    (hsp : ∀ (w : World) (H : Hp) (a : Addr) (ns : List Int), ns.length ≤ n → (∀ m ∈ ns, Builtin.Int.intBits m ≤ 1048576) → Only H →
      SqL (K w.params) H a (ns.map V.int) → sp w [.ref a] H (fun v _ => v = .bl true) fun _ _ _ => False) :
    PySem.W.WalkO q loose XP YP l.row.toRowW d [] (fun f vs => PySem.call f vs) := by
  refine Att.attach_callB hn hdf fun w s0 s1 mg mb fa o pm cd doc a vs ns G Y ho hd hcd hmg hobj hints hlen hbits hg => ?_
  have KX := hY w _ Y
  obtain ⟨fd, hb, hF⟩ := F w mg fa _ KX G.T.g hmg
  obtain ⟨mm, hmm, _⟩ := (G.T.seer himp).mods
  exact lawG KX G.T.g G.T.b G.T.builtins G.T.nolimit ⟨mm, hmm⟩ hg hobj hints (Nat.le_trans hlen hn2) hr hF hb fun H hO hS => hsp w H a ns hlen hbits hO hS
end L2.XK

set_option Elab.async false
set_option maxRecDepth 100000
set_option maxHeartbeats 4000000
/-! repr of data (dicts too) that stands in the tracked heap. -/
namespace L2.XK
open PySem PySem.Spec PyProof.Rows XC
mutual
/-- v stands for the data d, all of it tracked -/
inductive Dx (K : PySem.W.Frag) (H : Hp) : V → PyData → Prop
  | non : Dx K H .non .none
  | bl (b : Bool) : Dx K H (.bl b) (.bool b)
  | int (i : Int) : Dx K H (.int i) (.int i)
  | str (x : Str) : Dx K H (.str x) (.str x)
  | lst {a : Addr} {xs : List V} {ds : List PyData} : H a = some (.lst xs) → DxAll K H xs ds → Dx K H (.ref a) (.list ds)
  | tup {a : Addr} {xs : List V} {ds : List PyData} : SqT K H a xs → DxAll K H xs ds → Dx K H (.ref a) (.tuple ds)
  | dic {a : Addr} {kvs : List (Key × V)} {ds : List (PyData × PyData)} : H a = some (.dK kvs) → DxAll K H (kvs.map fun p => kV p.1) (ds.map (·.1)) →
      DxAll K H (kvs.map (·.2)) (ds.map (·.2)) → Dx K H (.ref a) (.dict ds)
inductive DxAll (K : PySem.W.Frag) (H : Hp) : List V → List PyData → Prop
  | nil : DxAll K H [] []
  | cons {v : V} {vs : List V} {d : PyData} {ds : List PyData} : Dx K H v d → DxAll K H vs ds → DxAll K H (v :: vs) (d :: ds)
end
mutual
theorem Dx.same {K : PySem.W.Frag} {H H' : Hp} (k : ∀ b o, H b = some o → H' b = some o) : ∀ {v : V} {d : PyData}, Dx K H v d → Dx K H' v d
  | _, _, .non => .non
  | _, _, .bl b => .bl b
  | _, _, .int i => .int i
  | _, _, .str x => .str x
  | _, _, .lst h q => .lst (k _ _ h) (DxAll.same k q)
  | _, _, .tup h q => .tup (Evl.ex_t k h) (DxAll.same k q)
  | _, _, .dic h p q => .dic (k _ _ h) (DxAll.same k p) (DxAll.same k q)
theorem DxAll.same {K : PySem.W.Frag} {H H' : Hp} (k : ∀ b o, H b = some o → H' b = some o) : ∀ {vs : List V} {ds : List PyData}, DxAll K H vs ds → DxAll K H' vs ds
  | _, _, .nil => .nil
  | _, _, .cons p q => .cons (Dx.same k p) (DxAll.same k q)
end
theorem DxAll.append {K : PySem.W.Frag} {H : Hp} : ∀ {vs ws : List V} {ds es : List PyData}, DxAll K H vs ds → DxAll K H ws es → DxAll K H (vs ++ ws) (ds ++ es)
  | _, _, _, _, .nil, q => q
  | _, _, _, _, .cons a b, q => .cons a (DxAll.append b q)
theorem DxAll.rep {K : PySem.W.Frag} {H : Hp} {v : V} {d : PyData} (h : Dx K H v d) : ∀ n, DxAll K H (List.replicate n v) (List.replicate n d)
  | 0 => .nil
  | n + 1 => .cons h (DxAll.rep h n)

theorem kV_of {P : Program} {w : World} {k : Key} {v : Value} (h : (mixKind P w).is k v = true) : RelV (kV k) v := by
  rcases keyIs_shape h with ⟨i, t, rfl, rfl⟩ | ⟨x, t, rfl, rfl⟩
  · exact ⟨t, rfl⟩
  · exact ⟨t, rfl⟩
theorem kvKeys {P : Program} {w : World} : ∀ {kvs : List (Key × V)} {vs : List (Key × Value)} {es : List DictEntry}, KV kvs vs → Pairs (mixKind P w) es vs →
    Vals (kvs.map fun p => kV p.1) (es.map (·.key)) ∧ Vals (kvs.map (·.2)) (es.map (·.val))
  | [], _, es, .nil, h => by
    cases h
    exact ⟨.nil, .nil⟩
  | (k, v) :: r, _, es, .cons (b := (k', u)) ⟨e1, e2⟩ t, h => by
    cases h with
    | cons hk hv ht =>
      obtain ⟨i1, i2⟩ := kvKeys t ht
      have e1' : k = k' := e1
      subst e1'
      refine ⟨.cons (kV_of hk) i1, .cons ?_ i2⟩
      exact Eq.mpr (congrArg (RelV v) hv) e2
section
variable {X : Cx} {pins : List (Addr × Obj)} {σ : St} {H : Hp} {s : Shared}
theorem DxAll.reads (I : Inv X pins σ H s) (hs : Sys X.base) {vs : List V} {ds : List PyData} (h : DxAll X.K H vs ds) :
    ∀ us : List Value, Vals vs us → ∃ as, ReadsAll s.heap us ds as ∧ sysModules ∉ as := by
  refine DxAll.rec (motive_1 := fun v d _ => ∀ u, RelV v u → ∃ as, Reads s.heap u d as ∧ sysModules ∉ as)
    (motive_2 := fun vs ds _ => ∀ us, Vals vs us → ∃ as, ReadsAll s.heap us ds as ∧ sysModules ∉ as) ?_ ?_ ?_ ?_ ?_ ?_ ?_ ?_ ?_ h
  · intro u r
    cases r
    exact ⟨_, Reads.none, by simp⟩
  · intro b u r
    cases r
    exact ⟨_, Reads.bool b, by simp⟩
  · intro i u r
    obtain ⟨t, rfl⟩ := r
    exact ⟨_, Reads.int i t, by simp⟩
  · intro x u r
    obtain ⟨t, rfl⟩ := r
    exact ⟨_, Reads.str x t, by simp⟩
  · intro a xs ds ha _ ih u r
    cases r
    obtain ⟨_, its, n, rv, ho⟩ := (show ObjOk X.prog X.w H s.heap a (.lst xs) from I.hok a _ ha)
    obtain ⟨as, hr, hn⟩ := ih _ rv
    refine ⟨_, Reads.list ho rfl rfl hr, fun z => ?_⟩
    rcases List.mem_cons.mp z with z | z
    · obtain ⟨o, q⟩ := hs
      have w := (I.bs _ _ q).2
      rw [z, ha] at w
      cases w
    · exact hn z
  · intro a xs ds ha _ ih u r
    cases r
    obtain ⟨its, rv, ⟨o, ho, hc, n, hd⟩, _⟩ := I.tuple ha
    obtain ⟨as, hr, hn⟩ := ih _ rv
    exact ⟨_, Reads.tuple ho hc hd hr, hn⟩
  · intro a kvs ds ha _ _ ih1 ih2 u r
    cases r
    obtain ⟨_, hm, vs, rk, o, es, ep, ho, hc, hd, _, hp, _⟩ := (show ObjOk X.prog X.w H s.heap a (.dK kvs) from I.hok a _ ha)
    obtain ⟨v1, v2⟩ := kvKeys rk hp
    obtain ⟨as, q1, n1⟩ := ih1 _ v1
    obtain ⟨bs, q2, n2⟩ := ih2 _ v2
    refine ⟨_, Reads.dict ho hc.1 hd q1 q2, fun z => ?_⟩
    rcases List.mem_append.mp z with z | z
    · rcases List.mem_cons.mp z with z | z
      · rw [← z] at hm
        simp at hm
      · exact n1 z
    · exact n2 z
  · intro us r
    cases r
    exact ⟨_, ReadsAll.nil, by simp⟩
  · intro v vs d ds _ _ ih1 ih2 us r
    cases r with
    | cons r1 r2 =>
      obtain ⟨as, q1, n1⟩ := ih1 _ r1
      obtain ⟨bs, q2, n2⟩ := ih2 _ r2
      refine ⟨_, ReadsAll.cons q1 q2, fun z => ?_⟩
      rcases List.mem_append.mp z with z | z
      · exact n1 z
      · exact n2 z
theorem Dx.reads (I : Inv X pins σ H s) (hs : Sys X.base) {v : V} {d : PyData} {u : Value} (h : Dx X.K H v d) (r : RelV v u) :
    ∃ as, Reads s.heap u d as ∧ sysModules ∉ as := by
  obtain ⟨as, hr, hn⟩ := DxAll.reads I hs (.cons h .nil) [u] (.cons r .nil)
  cases hr with
  | cons h1 h2 =>
    exact ⟨_, h1, fun z => hn (List.mem_append_left _ z)⟩
/-- repr(v), v a list, a tuple or a dict of data -/
theorem call_reprD (hs : Sys X.base) (hg : X.A.guards = some []) (hu : X.A.units + 200 < cLine) :
    CallR X (.builtin "repr") (fun xs H Q => ∃ a d, xs = [V.ref a] ∧ Dx X.K H (.ref a) d ∧ d.showable = true ∧ d.shown.length ≤ sizeLine ∧ d.depth ≤ 100 ∧ Q (.str d.shown) H) := by
  intro pins s σ H xs us Q I r h
  obtain ⟨a, d, rfl, hd, hw, hz, hdp, q⟩ := h
  cases r with
  | cons r1 r2 =>
    cases r2
    cases r1
    obtain ⟨as, hr, hn⟩ := Dx.reads I hs hd rfl
    exact repr_of_reads' hr hw (fun _ => hn) hg (by omega) (fun _ _ e => e) (fun h' u tk k => ⟨.str d.shown, H, I.kept (t' := tk) k, ⟨u, rfl⟩, q⟩) hz
end
end L2.XK

set_option Elab.async false
set_option maxRecDepth 100000
set_option maxHeartbeats 4000000
/-! What else the laws' helpers ask: count over flat items, the makers of the exceptions, words for a pool of three ints. -/
namespace L2.XK
open PySem PySem.Spec PyProof.Rows XC
section
variable {X : Cx}
/-- xs.count(y), flat items -/
def rCountF (K : PySem.W.Frag) : V → List V → Hp → VK → Prop := fun x xs H Q => ∃ (a : Addr) (ys : List V) (y : V), x = V.ref a ∧ xs = [y] ∧
  SqL K H a ys ∧ flatV y = true ∧ ys.all flatV = true ∧ Q (.int (ys.countP fun z => eqV z y : Nat)) H
theorem countEq {y : V} : ∀ {ys : List V} {its : List Value}, Vals ys its → ys.all flatV = true →
    its.countP (eqU y) = ys.countP fun z => eqV z y
  | [], _, .nil, _ => rfl
  | z :: r, _, .cons (b := v) h t, k => by
    rw [List.all_cons, Bool.and_eq_true] at k
    rw [List.countP_cons, List.countP_cons, countEq t k.2, eqU_of h k.1]
theorem mt_countB : MtR X "list.count" (rCountF X.K) := by
  intro pins s σ H x xs v us Q I rx rxs h
  obtain ⟨a, ys, y, rfl, rfl, hs, fy, fys, q⟩ := h
  cases rx
  cases rxs with
  | cons ry rt =>
    rename_i uy ut
    cases rt
    obtain ⟨its, rv, ⟨⟨cls, dd, data, sl⟩, n, ho, hc, hdn, hd⟩, hlen⟩ := I.list hs
    simp only at hc hd
    subst hc hd
    refine call_meets PySem.F.slot_list_count ⟨_, ho, rfl⟩ PySem.F.entry_list_count (PySem.F.args_list_count_2 _ _)
      (SeqAt.list_countAt a its.toArray n dd sl uy (eqU y)) ⟨ho, fun u' hu' => mem_eqAt ry fy rv fys u' (by simpa using hu'), ?_⟩
    have ec : its.toArray.toList.countP (eqU y) = ys.countP fun z => eqV z y := countEq (by simpa using rv) fys
    refine ⟨.int (ys.countP fun z => eqV z y : Nat), H, I.tok _, ⟨s.toks, ?_⟩, q⟩
    show Value.int ((its.toArray.toList.countP (eqU y) : Nat) : Int) s.toks = Value.int ((ys.countP fun z => eqV z y : Nat) : Int) s.toks
    rw [ec]

/-! ### the makers -/
theorem room200 {k : Nat} {A : Around} (h : Room k A) : A.units + 200 < cLine := by
  have := h.un
  omega
def fsOne (f : Str) : List V → Option (List (Str × V))
  | [v] => some [(f, v)]
  | _ => none
theorem hlOne {f : Str} : ∀ (vs : List V) (fs : List (Str × V)), fsOne f vs = some fs → vs.length = 1
  | [_], _, _ => rfl
  | [], _, h => by cases h
  | _ :: _ :: _, _, h => by cases h
def fsTwo (f g : Str) : List V → Option (List (Str × V))
  | [v, w] => some [(g, w), (f, v)]
  | _ => none
theorem hlTwo {f g : Str} : ∀ (vs : List V) (fs : List (Str × V)), fsTwo f g vs = some fs → vs.length = 2
  | [_, _], _, _ => rfl
  | [], _, h => by cases h
  | [_], _, h => by cases h
  | _ :: _ :: _ :: _, _, h => by cases h
def fsTwoR (f g : Str) : List V → Option (List (Str × V))
  | [w, v] => some [(g, w), (f, v)]
  | _ => none
theorem hlTwoR {f g : Str} : ∀ (vs : List V) (fs : List (Str × V)), fsTwoR f g vs = some fs → vs.length = 2
  | [_, _], _, _ => rfl
  | [], _, h => by cases h
  | [_], _, h => by cases h
  | _ :: _ :: _ :: _, _, h => by cases h
theorem relOne {f : Str} {v : V} {u : Value} (r : RelV v u) (g : Str) : RelO (List.lookup g [(f, v)]) (if g = f then some u else none) :=
  relO_put (fs := []) (mA := fun _ => none) r (fun _ => True.intro) g
theorem relTwo {f g : Str} {v w : V} {u z : Value} (r : RelV v u) (r' : RelV w z) (x : Str) :
    RelO (List.lookup x [(g, w), (f, v)]) (if x = g then some z else if x = f then some u else none) :=
  relO_put (fs := [(f, v)]) (mA := fun x => if x = f then some u else none) r' (fun y => relOne r y) x
section
variable {C fI : Addr} {B newId initId : String} {bmB : List Value} {k : Nat}
theorem pairOne {vs : List V} {us : List Value} {f : Str} {fs : List (Str × V)} (r : Vals vs us) (h : fsOne f vs = some fs) : ∃ v u, vs = [v] ∧ us = [u] ∧ RelV v u ∧ fs = [(f, v)] := by
  cases r with
  | nil => cases h
  | cons a t =>
    cases t with
    | nil =>
      cases h
      exact ⟨_, _, rfl, rfl, a, rfl⟩
    | cons _ _ => cases h
theorem pairTwo {vs : List V} {us : List Value} {f g : Str} {fs : List (Str × V)} (r : Vals vs us) (h : fsTwo f g vs = some fs) :
    ∃ v w u z, vs = [v, w] ∧ us = [u, z] ∧ RelV v u ∧ RelV w z ∧ fs = [(g, w), (f, v)] := by
  cases r with
  | nil => cases h
  | cons a t =>
    cases t with
    | nil => cases h
    | cons b t =>
      cases t with
      | nil =>
        cases h
        exact ⟨_, _, _, _, rfl, rfl, a, b, rfl⟩
      | cons _ _ => cases h
theorem pairTwoR {vs : List V} {us : List Value} {f g : Str} {fs : List (Str × V)} (r : Vals vs us) (h : fsTwoR f g vs = some fs) :
    ∃ v w u z, vs = [w, v] ∧ us = [z, u] ∧ RelV v u ∧ RelV w z ∧ fs = [(g, w), (f, v)] := by
  cases r with
  | nil => cases h
  | cons a t =>
    cases t with
    | nil => cases h
    | cons b t =>
      cases t with
      | nil =>
        cases h
        exact ⟨_, _, _, _, rfl, rfl, b, a, rfl⟩
      | cons _ _ => cases h
theorem mkGvP (T : ClsGv X.K C fI B newId initId bmB) (hr : Room k X.A) : Maker X C 1 [] (fsOne "given") := by
  intro s1 vs us ws fs R hK hlim l1 l2 rv ef q
  obtain rfl : ws = [] := List.length_eq_zero_iff.mp l2
  rw [List.append_nil] at rv
  obtain ⟨v, u, rfl, rfl, r, rfl⟩ := pairOne rv ef
  exact madeGvP T hK hlim (by have := hr.dp; omega) fun h' tk e d M => q h' tk e d _ M (relOne r)
theorem mkGvK (T : ClsGv X.K C fI B newId initId bmB) (hr : Room k X.A) : Maker X C 0 ["given"] (fsOne "given") := by
  intro s1 vs us ws fs R hK hlim l1 l2 rv ef q
  obtain rfl : us = [] := List.length_eq_zero_iff.mp l1
  rw [List.nil_append] at rv
  obtain ⟨v, u, rfl, rfl, r, rfl⟩ := pairOne rv ef
  exact madeGvK T hK hlim (by have := hr.dp; omega) fun h' tk e d M => q h' tk e d _ M (relOne r)
theorem mkIxP (T : ClsIx X.K C fI B newId initId bmB) (hr : Room k X.A) : Maker X C 1 [] (fsOne "index") := by
  intro s1 vs us ws fs R hK hlim l1 l2 rv ef q
  obtain rfl : ws = [] := List.length_eq_zero_iff.mp l2
  rw [List.append_nil] at rv
  obtain ⟨v, u, rfl, rfl, r, rfl⟩ := pairOne rv ef
  exact madeIxP T hK hlim (by have := hr.dp; omega) fun h' tk e d M => q h' tk e d _ M (relOne r)
theorem mkIxK (T : ClsIx X.K C fI B newId initId bmB) (hr : Room k X.A) : Maker X C 0 ["index"] (fsOne "index") := by
  intro s1 vs us ws fs R hK hlim l1 l2 rv ef q
  obtain rfl : us = [] := List.length_eq_zero_iff.mp l1
  rw [List.nil_append] at rv
  obtain ⟨v, u, rfl, rfl, r, rfl⟩ := pairOne rv ef
  exact madeIxK T hK hlim (by have := hr.dp; omega) fun h' tk e d M => q h' tk e d _ M (relOne r)
theorem mkMoP (T : ClsMo X.K C fI B newId initId bmB) (hr : Room k X.A) : Maker X C 1 [] (fsOne "most") := by
  intro s1 vs us ws fs R hK hlim l1 l2 rv ef q
  obtain rfl : ws = [] := List.length_eq_zero_iff.mp l2
  rw [List.append_nil] at rv
  obtain ⟨v, u, rfl, rfl, r, rfl⟩ := pairOne rv ef
  exact madeMoP T hK hlim (by have := hr.dp; omega) fun h' tk e d M => q h' tk e d _ M (relOne r)
theorem mkMoK (T : ClsMo X.K C fI B newId initId bmB) (hr : Room k X.A) : Maker X C 0 ["most"] (fsOne "most") := by
  intro s1 vs us ws fs R hK hlim l1 l2 rv ef q
  obtain rfl : us = [] := List.length_eq_zero_iff.mp l1
  rw [List.nil_append] at rv
  obtain ⟨v, u, rfl, rfl, r, rfl⟩ := pairOne rv ef
  exact madeMoK T hK hlim (by have := hr.dp; omega) fun h' tk e d M => q h' tk e d _ M (relOne r)
theorem mkBrP (T : ClsBr X.K C fI B newId initId bmB) (hr : Room k X.A) : Maker X C 2 [] (fsTwo "index" "shown") := by
  intro s1 vs us ws fs R hK hlim l1 l2 rv ef q
  obtain rfl : ws = [] := List.length_eq_zero_iff.mp l2
  rw [List.append_nil] at rv
  obtain ⟨v, w, u, z, rfl, rfl, r, r', rfl⟩ := pairTwo rv ef
  exact madeBrP T hK hlim (by have := hr.dp; omega) fun h' tk e d M => q h' tk e d _ M (relTwo r r')
theorem mkBrR (T : ClsBr X.K C fI B newId initId bmB) (hr : Room k X.A) : Maker X C 0 ["shown", "index"] (fsTwoR "index" "shown") := by
  intro s1 vs us ws fs R hK hlim l1 l2 rv ef q
  obtain rfl : us = [] := List.length_eq_zero_iff.mp l1
  rw [List.nil_append] at rv
  obtain ⟨v, w, u, z, rfl, rfl, r, r', rfl⟩ := pairTwoR rv ef
  exact madeBrR T hK hlim (by have := hr.dp; omega) fun h' tk e d M => q h' tk e d _ M (relTwo r r')
end
end

theorem s_next {D : Ends} {σ : St} {H : Hp} (h : D.nx σ H) : tNext D σ H := h
theorem s_seq {D : Ends} {σ : St} {H : Hp} {t u : TS} (h : t { D with nx := u D } σ H) : tSeq t u D σ H := h
/-! ### a pool: three ints in a list -/
def PoolAt (H : Hp) (p : Addr) (n : Int) : Prop := ∃ a b c : Int, H p = some (.lst [.int a, .int b, .int c]) ∧ 0 ≤ a ∧ a < 2147483563 ∧ 0 ≤ b ∧ 0 ≤ c ∧ c ≤ n
/-- all but p stands as it stood -/
def But (p : Addr) (H H' : Hp) : Prop := ∀ q o, q ≠ p → H q = some o → H' q = some o
theorem But.refl {p : Addr} {H : Hp} : But p H H := fun _ _ _ e => e
theorem But.trans {p : Addr} {H H1 H2 : Hp} (a : But p H H1) (b : But p H1 H2) : But p H H2 := fun q o n e => b q o n (a q o n e)
theorem But.of {p : Addr} {H H' : Hp} (e : Evl.Ex H H') : But p H H' := fun q o _ h => e q o h
theorem But.upd {p : Addr} {H : Hp} {o : HO} : But p H (upd H p o) := fun q u n e => by rw [upd_ne n]; exact e
theorem PoolAt.ex {H H' : Hp} {p : Addr} {n : Int} (h : PoolAt H p n) (e : Evl.Ex H H') : PoolAt H' p n := by
  obtain ⟨a, b, c, hp, r⟩ := h
  exact ⟨a, b, c, e _ _ hp, r⟩
theorem PoolAt.le {H : Hp} {p : Addr} {n m : Int} (h : PoolAt H p n) (e : n ≤ m) : PoolAt H p m := by
  obtain ⟨a, b, c, hp, h1, h2, h3, h4, h5⟩ := h
  exact ⟨a, b, c, hp, h1, h2, h3, h4, Int.le_trans h5 e⟩
/-- draw(pool, many) -/
def spDraw : Sp := fun vs H Q _ => ∃ (p : Addr) (n m : Int), vs = [.ref p, .int m] ∧ PoolAt H p n ∧ n ≤ 1000000 ∧ 1 ≤ m ∧ m < 1073741824 ∧
  ∀ H' r, PoolAt H' p (n + 1) → But p H H' → 0 ≤ r → r < m → Q (.int r) H'
/-- pick(pool, things), things a list -/
def spPick : Sp := fun vs H Q _ => ∃ (p l : Addr) (n : Int) (xs : List V), vs = [.ref p, .ref l] ∧ PoolAt H p n ∧ n ≤ 1000000 ∧ l ≠ p ∧ H l = some (.lst xs) ∧ 1 ≤ xs.length ∧ xs.length < 1073741824 ∧
  ∀ H' v, PoolAt H' p (n + 1) → But p H H' → v ∈ xs → Q v H'
/-- pool(cells, turn) -/
def spPool (K : PySem.W.Frag) : Sp := fun vs H Q _ => ∃ (a : Addr) (ns : List Int) (k : Int), vs = [.ref a, .int k] ∧ SqL K H a (ns.map V.int) ∧ ns.length ≤ 63 ∧ 0 ≤ k ∧ k ≤ 1000 ∧
  ∀ H' p, H p = none → Evl.Ex H H' → PoolAt H' p 0 → Q (.ref p) H'
end L2.XK

set_option Elab.async false
set_option maxRecDepth 100000
set_option maxHeartbeats 4000000
set_option linter.all false
/-! More of what evaluates to what: lists joined and repeated, isinstance of an exception that was made, its fields, == of lists of truth values, a chain. -/
namespace L2.XK
open PySem PySem.Spec PyProof.Rows XC Evl
section
variable {K : PySem.W.Frag} {σ : L2.St} {H : Hp} {ta tb tc : TE}
theorem el_cat {l : Addr} {xs ys : List V} (ha : Ev ta σ H (.ref l)) (hl : H l = some (.lst xs)) (hb : EvL tb σ H ys) (hz : xs.length + ys.length ≤ 100000) :
    EvL (tOp rCat ta tb) σ H (xs ++ ys) := fun H1 e Q q =>
  ha H1 e _ fun H2 e2 => hb H2 (e.trans e2) _ fun p H3 _ e3 h3 =>
    ⟨l, p, xs, ys, rfl, rfl, ((e.trans e2).trans e3) l _ hl, h3, sz_of hz, fun r hr => q r _ (fresh_back (e2.trans e3) hr) ((e2.trans e3).trans (Ex.new hr)) upd_same⟩
theorem el_catN {xs ys : List V} (ha : EvL ta σ H xs) (hb : ∀ H', Ex H H' → EvL tb σ H' ys) (hz : xs.length + ys.length ≤ 100000) :
    EvL (tOp rCat ta tb) σ H (xs ++ ys) := fun H1 e Q q =>
  ha H1 e _ fun l H2 _ e2 hl => hb H2 (e.trans e2) H2 (Ex.refl _) _ fun p H3 _ e3 h3 =>
    ⟨l, p, xs, ys, rfl, rfl, e3 l _ hl, h3, sz_of hz, fun r hr => q r _ (fresh_back (e2.trans e3) hr) ((e2.trans e3).trans (Ex.new hr)) upd_same⟩
theorem el_rep {xs : List V} {k : Nat} (ha : EvL ta σ H xs) (hk : k ≤ 1000) (hz : xs.length * k ≤ 100000) :
    EvL (tOp rRep ta (tC (.int (k : Int)))) σ H (List.replicate k xs).flatten := fun H1 e Q q =>
  ha H1 e _ fun l H2 _ e2 hl => ⟨l, (k : Int), xs, rfl, rfl, hl, by omega, by omega, by simpa using sz_of hz, fun r hr => by
    simpa using q r _ (fresh_back e2 hr) (e2.trans (Ex.new hr)) upd_same⟩
theorem ev_isX {e C : Addr} {d : Option Addr} {c : V} {u : Value} {b : Bool} (ha : Ev ta σ H (.ref e)) (he : H e = some (exo e C d))
    (hd : ∀ z, d = some z → ∃ fs, H z = some (.xd fs)) (X : XIs K C) (k : ClsV c u) (kit : PySem.W.kitOne K (.ref C) u = some b) :
    Ev (tCB (rIsX K) (tCons ta (tCons (tC c) tNil))) σ H (.bl b) := fun H1 e1 Q q =>
  ha H1 e1 _ fun H2 e2 => ⟨e, C, d, c, u, b, rfl, (e1.trans e2) _ _ he, fun z hz => by
    obtain ⟨fs, h⟩ := hd z hz
    exact ⟨fs, (e1.trans e2) _ _ h⟩, X, k, kit, q H2 e2⟩
theorem ev_xfld {e C d : Addr} {fs : List (Str × V)} {f : Str} {v : V} (ha : Ev ta σ H (.ref e)) (he : H e = some (exo e C (some d))) (hd : H d = some (.xd fs))
    (hl : fs.lookup f = some v) (T : ∃ B newId initId bmB, EC K C B newId initId bmB) (nf : PySem.W.findIn K (.ref C) f = some none) : Ev (tXFld K f ta) σ H v := fun H1 e1 Q q =>
  ha H1 e1 _ fun H2 e2 => ⟨e, C, d, fs, v, rfl, (e1.trans e2) _ _ he, (e1.trans e2) _ _ hd, hl, T, nf, q H2 e2⟩
/-- a new exception -/
theorem ev_new {C : Addr} {fsOf : List V → Option (List (Str × V))} {ts : TA} {vs : List V} {fs : List (Str × V)} (h : EvA ts σ H vs) (hf : fsOf vs = some fs) :
    ∀ H1, Ex H H1 → ∀ Q : VK, (∀ a d H2, H1 a = none → H1 d = none → Ex H1 H2 → H2 a = some (exo a C (some d)) → H2 d = some (.xd fs) → Q (.ref a) H2) → tNew C fsOf ts σ H1 Q := fun H1 e Q q =>
  h H1 e _ fun H2 e2 => ⟨fs, hf, fun a d ha hd hne => q a d _ (fresh_back e2 ha) (fresh_back e2 hd)
    ((e2.trans (Ex.new hd)).trans (Ex.new (by rw [upd_ne (Ne.symm hne)]; exact ha))) upd_same (by rw [upd_ne hne, upd_same])⟩
theorem ev_chain {r r' : R2} {x y z : V} {b c : Bool} (ha : Ev ta σ H x) (hb : Ev tb σ H y) (hr : RV r x y H (.bl b)) (hc : Ev tc σ H z) (hr' : RV r' y z H (.bl c)) :
    Ev (tChain r r' ta tb tc) σ H (.bl (b && c)) := fun H1 e Q q =>
  ha H1 e _ fun H2 e2 => hb H2 (e.trans e2) _ fun H3 e3 => hr H3 ((e.trans e2).trans e3) _ fun H4 e4 => ⟨b, rfl, by
    have e14 := (e2.trans e3).trans e4
    cases b with
    | true =>
      show tc σ H4 _
      exact hc H4 (e.trans e14) _ fun H5 e5 => hr' H5 ((e.trans e14).trans e5) Q fun H6 e6 => q H6 ((e14.trans e5).trans e6)
    | false =>
      show Q (.bl false) H4
      exact q H4 e14⟩
theorem dpBools {bs : List Bool} : DpAll K H (bs.map V.bl) (bs.map PyData.bool) := by
  induction bs with
  | nil => exact .nil
  | cons b bs ih => exact .cons (.bl b) ih
theorem canBools : ∀ bs : List Bool, PyData.canLayAll0 (bs.map PyData.bool) = true
  | [] => rfl
  | b :: bs => by
    have ih := canBools bs
    simp only [List.map_cons, PyData.canLayAll0, ih, Bool.and_true]
    rfl
theorem depthBools : ∀ bs : List Bool, PyData.depthAll (bs.map PyData.bool) = 0
  | [] => rfl
  | b :: bs => by
    have ih := depthBools bs
    simp only [List.map_cons, PyData.depthAll, ih, PyData.depth, Nat.max_self]
theorem shapedBools (bs : List Bool) : SeqAt.shaped (.list (bs.map PyData.bool)) = true := by
  have h1 := canBools bs
  have h2 := depthBools bs
  unfold SeqAt.shaped
  simp only [PyData.canLay0, PyData.depth, h1, h2]
  decide
theorem eqvBools (bs : List Bool) : PyData.eqv (.list (bs.map PyData.bool)) (.list (bs.map PyData.bool)) = true :=
  SeqAt.eqv_refl _ (SeqAt.canLay_of_shaped (shapedBools bs))
theorem rv_neBools {p q : Addr} {bs : List Bool} (hp : H p = some (.lst (bs.map V.bl))) (hq : H q = some (.lst (bs.map V.bl))) : RV (rNeD K) (.ref p) (.ref q) H (.bl false) := fun H1 e Q k => by
  refine ⟨.list (bs.map PyData.bool), .list (bs.map PyData.bool), .lst (sq_of (e _ _ hp)) dpBools, .lst (sq_of (e _ _ hq)) dpBools, shapedBools bs, shapedBools bs, ?_⟩
  rw [eqvBools]
  exact k H1 (Ex.refl _)
theorem rv_eqBools {p q : Addr} {bs : List Bool} (hp : H p = some (.lst (bs.map V.bl))) (hq : H q = some (.lst (bs.map V.bl))) : RV (rEqD K) (.ref p) (.ref q) H (.bl true) := fun H1 e Q k => by
  refine ⟨.list (bs.map PyData.bool), .list (bs.map PyData.bool), .lst (sq_of (e _ _ hp)) dpBools, .lst (sq_of (e _ _ hq)) dpBools, shapedBools bs, shapedBools bs, ?_⟩
  rw [eqvBools]
  exact k H1 (Ex.refl _)
end
/-- a class of ours, the one above it, the built-in one above that -/
structure Srt (K : PySem.W.Frag) (C W : Addr) (B : String) : Prop where
  is : XIs K C
  mro : ∃ cd, PySem.W.clsIn K C = some cd ∧ cd.mro = [.ref C, .ref W, .type B, .type "Exception", .type "BaseException", .type "object"]
def isOwn (K : PySem.W.Frag) (C : Addr) : Prop := ((PySem.W.clsIn K C).isSome && PySem.W.typeIn K (.ref C) == some (.type "type")) = true
theorem kit_own {K : PySem.W.Frag} {C W D : Addr} {B : String} (S : Srt K C W B) (o : isOwn K D) : PySem.W.kitOne K (.ref C) (.ref D) = some (decide (D = C ∨ D = W)) := by
  obtain ⟨cd, hc, hm⟩ := S.mro
  have e1 : PySem.W.kitCls K (.ref C) (.ref D) = some (decide (D = C ∨ D = W)) := by
    unfold PySem.W.kitCls
    dsimp only
    have o' := o
    unfold isOwn at o'
    rw [if_pos o']
    unfold PySem.W.subIn PySem.W.mroIn
    dsimp only
    rw [hc, Option.bind_some, hm, if_neg (by simp)]
    congr 1
    rw [Bool.eq_iff_iff]
    simp
  unfold PySem.W.kitOne
  split
  · rename_i h
    have h' : Value.ref C = Value.ref D := by simpa using h
    cases h'
    simp
  · exact e1
theorem kit_blt {K : PySem.W.Frag} {C W : Addr} {B T : String} (S : Srt K C W B) (o : PySem.W.kitMeta T = true) :
    PySem.W.kitOne K (.ref C) (.type T) = some ([B, "Exception", "BaseException", "object"].contains T) := by
  obtain ⟨cd, hc, hm⟩ := S.mro
  have e1 : PySem.W.kitCls K (.ref C) (.type T) = some ([B, "Exception", "BaseException", "object"].contains T) := by
    unfold PySem.W.kitCls
    dsimp only
    rw [if_pos o]
    unfold PySem.W.subIn PySem.W.mroIn
    dsimp only
    rw [hc, Option.bind_some, hm, if_neg (by simp)]
    congr 1
    rw [Bool.eq_iff_iff]
    simp
  unfold PySem.W.kitOne
  rw [if_neg (by simp)]
  exact e1
end L2.XK

set_option Elab.async false
set_option maxRecDepth 100000
set_option maxHeartbeats 4000000
set_option linter.all false
/-! Data that is made on the way, beside a list at p that changes later. -/
namespace L2.XK
open PySem PySem.Spec PyProof.Rows XC Evl
theorem exDel {p : Addr} {H H' : Hp} (e : Ex H H') : Ex (delH H p) (delH H' p) := fun a o h => by
  by_cases z : a = p
  · rw [z, delH_same] at h
    cases h
  · rw [delH_ne z] at h ⊢
    exact e a o h
theorem butDel {p : Addr} {H H' : Hp} (e : But p H H') : Ex (delH H p) (delH H' p) := fun a o h => by
  by_cases z : a = p
  · rw [z, delH_same] at h
    cases h
  · rw [delH_ne z] at h ⊢
    exact e a o z h
theorem delEx {p : Addr} {H : Hp} : Ex (delH H p) H := fun a o h => by
  by_cases z : a = p
  · rw [z, delH_same] at h
    cases h
  · rw [delH_ne z] at h
    exact h
/-- evaluates to the data d, which does not lean on what stands at p -/
def EvD (K : PySem.W.Frag) (p : Addr) (te : TE) (σ : L2.St) (H : Hp) (d : PyData) : Prop := ∀ H1, Ex H H1 → ∀ Q : VK, (∀ v H2, Ex H1 H2 → Dx K (delH H2 p) v d → Q v H2) → te σ H1 Q
def EvDA (K : PySem.W.Frag) (p : Addr) (ta : TA) (σ : L2.St) (H : Hp) (ds : List PyData) : Prop := ∀ H1, Ex H H1 → ∀ Q : List V → Hp → Prop, (∀ vs H2, Ex H1 H2 → DxAll K (delH H2 p) vs ds → Q vs H2) → ta σ H1 Q
def EvDL (K : PySem.W.Frag) (p : Addr) (te : TE) (σ : L2.St) (H : Hp) (ds : List PyData) : Prop := ∀ H1, Ex H H1 → ∀ Q : VK,
  (∀ l xs H2, H1 l = none → Ex H1 H2 → H2 l = some (.lst xs) → DxAll K (delH H2 p) xs ds → Q (.ref l) H2) → te σ H1 Q
theorem dxLen {K : PySem.W.Frag} {H : Hp} : ∀ {vs : List V} {ds : List PyData}, DxAll K H vs ds → vs.length = ds.length
  | _, _, .nil => rfl
  | _, _, .cons _ t => congrArg Nat.succ (dxLen t)
section
variable {K : PySem.W.Frag} {p : Addr} {σ : L2.St} {H : Hp} {te tb : TE} {ta : TA} {o : HO}
theorem ed_ev {v : V} {d : PyData} (h : Ev te σ H v) (k : ∀ H', Dx K H' v d) : EvD K p te σ H d := fun H1 e Q q => h H1 e Q fun H2 e2 => q v H2 e2 (k _)
theorem eda_nil : EvDA K p tNil σ H [] := fun H1 e Q q => q [] H1 (Ex.refl _) .nil
theorem eda_cons {d : PyData} {ds : List PyData} (h : EvD K p te σ H d) (t : EvDA K p ta σ H ds) : EvDA K p (tCons te ta) σ H (d :: ds) := fun H1 e Q q =>
  h H1 e _ fun v H2 e2 hv => t H2 (e.trans e2) _ fun vs H3 e3 ht => q (v :: vs) H3 (e2.trans e3) (.cons (hv.same (exDel e3)) ht)
theorem newDel {H' : Hp} {q : Addr} {u : HO} (hp : H p = some o) (e : Ex H H') (hq : H' q = none) : delH (upd H' q u) p q = some u ∧ Ex (delH H' p) (delH (upd H' q u) p) := by
  have hne : q ≠ p := fun z => by
    rw [z, e _ _ hp] at hq
    cases hq
  exact ⟨by rw [delH_ne hne, upd_same], exDel (Ex.new hq)⟩
theorem edl_lst {ds : List PyData} (hp : H p = some o) (h : EvDA K p ta σ H ds) (hl : ds.length ≤ 100000) : EvDL K p (tLst ta) σ H ds := fun H1 e Q q =>
  h H1 e _ fun vs H2 e2 hv => ⟨sz_of (by rw [dxLen hv]; exact hl), fun l hn => q l vs _ (fresh_back e2 hn) (e2.trans (Ex.new hn)) upd_same (hv.same (newDel hp (e.trans e2) hn).2)⟩
theorem ed_lst {ds : List PyData} (hp : H p = some o) (h : EvDA K p ta σ H ds) (hl : ds.length ≤ 100000) : EvD K p (tLst ta) σ H (.list ds) := fun H1 e Q q =>
  h H1 e _ fun vs H2 e2 hv => ⟨sz_of (by rw [dxLen hv]; exact hl), fun l hn =>
    q (.ref l) _ (e2.trans (Ex.new hn)) (.lst (newDel hp (e.trans e2) hn).1 (hv.same (newDel hp (e.trans e2) hn).2))⟩
theorem ed_tup {ds : List PyData} (hp : H p = some o) (h : EvDA K p ta σ H ds) (hl : ds.length ≤ 100000) : EvD K p (tTup ta) σ H (.tuple ds) := fun H1 e Q q =>
  h H1 e _ fun vs H2 e2 hv => ⟨sz_of (by rw [dxLen hv]; exact hl), fun l hn =>
    q (.ref l) _ (e2.trans (Ex.new hn)) (.tup (st_of (newDel hp (e.trans e2) hn).1) (hv.same (newDel hp (e.trans e2) hn).2))⟩
theorem ed_dict0 (hp : H p = some o) : EvD K p (fun σ H Q => ∀ d, H d = none → Q (.ref d) (upd H d (.dK []))) σ H (.dict []) := fun H1 e Q q l hn =>
  q (.ref l) _ (Ex.new hn) (.dic (newDel hp e hn).1 .nil .nil)
theorem edl_cat {l : Addr} {xs : List V} {ds es : List PyData} (hp : H p = some o) (ha : Ev te σ H (.ref l)) (hl : H l = some (.lst xs)) (hd : DxAll K (delH H p) xs ds) (hb : EvDL K p tb σ H es)
    (hz : ds.length + es.length ≤ 100000) : EvDL K p (tOp rCat te tb) σ H (ds ++ es) := fun H1 e Q q =>
  ha H1 e _ fun H2 e2 => hb H2 (e.trans e2) _ fun r ys H3 hr e3 h3 hy =>
    ⟨l, r, xs, ys, rfl, rfl, ((e.trans e2).trans e3) l _ hl, h3, sz_of (by rw [dxLen hd, dxLen hy]; exact hz), fun n hn =>
      q n _ _ (fresh_back (e2.trans e3) hn) ((e2.trans e3).trans (Ex.new hn)) upd_same
        (((hd.same (exDel ((e.trans e2).trans e3))).append hy).same (newDel hp ((e.trans e2).trans e3) hn).2)⟩
theorem ed_dict1 {k : Str} {i : Int} (hp : H p = some o) : EvD K p (tDisp [(tC (.str k), tC (.int i))]) σ H (.dict [(.str k, .int i)]) := fun H1 e Q q l hn => by
  have hx := newDel (u := .dK [(.inr k, .int i)]) hp e hn
  refine ⟨upd_same, [(.inr k, .int i)], rfl, by show 1 ≤ 15; decide, ?_⟩
  show Q (.ref l) (upd (upd H1 l (.dK [])) l (.dK [(.inr k, .int i)]))
  rw [upd_upd]
  exact q (.ref l) _ (Ex.new hn) (.dic (ds := [(.str k, .int i)]) hx.1 (.cons (.str k) .nil) (.cons (.int i) .nil))
theorem s_asgDL {D : Ends} {i : Nat} {ds : List PyData} (h : EvDL K p te σ H ds) (k : ∀ l xs H1, H l = none → Ex H H1 → H1 l = some (.lst xs) → DxAll K (delH H1 p) xs ds → D.nx (σ.set i (some (.ref l))) H1) :
    tAsg te (gName i) D σ H := h H (Ex.refl H) _ fun l xs H1 hn e h1 hd => k l xs H1 hn e h1 hd
end
end L2.XK

set_option Elab.async false
set_option maxRecDepth 100000
set_option maxHeartbeats 4000000
set_option linter.all false
/-! for i, x in enumerate(t), t a tuple. -/
namespace XC
open PySem
theorem newsEnumOf {v : Value} {o : Obj} {HP : Heap → Prop} (B : Begins v o HP) :
    Meets (Builtin.«enumerate.__new__» ⟨[.type "enumerate", v], []⟩) (fun _ R s => HP s.heap ∧
      R (.ok (.ret (.ref (s.heap.push o).objs.size))) { s with heap := (s.heap.push o).push { cls := .type "enumerate", data := .fields #[.none, .bool false, .ref s.heap.objs.size, rawInt 0, .none, .none] } }) :=
  .of_wp fun prog w A R s h => by
    obtain ⟨hp, gn, dr, tk, os⟩ := s
    obtain ⟨h1, h⟩ := h
    have hsub := sub_enumerate
    have go : ∀ {A' : Around} {E : Value → Shared → Prop} {Q : Value → Shared → Prop}, Q (.ref hp.objs.size) ⟨hp.push o, gn, dr, tk, os⟩ →
        wpAny (model prog w) A' (pyIter v) Q E ⟨hp, gn, dr, tk, os⟩ := fun q => B.iter prog w _ _ ⟨hp, gn, dr, tk, os⟩ _ h1 q
    wp_walk using go
    refine wpAny_stack_any fun st => wpAny_pure ?_
    split
    · rename_i c _ _ _ _ _
      cases (c == Value.type "enumerate") <;> (wp_walk using go; exact ⟨_, rfl, h⟩)
    · wp_walk using go
      exact ⟨_, rfl, h⟩
section
variable {prog : Program} {w : World} {A : Around} {E : Value → Shared → Prop} {s : Shared}
theorem callEnumOf {v : Value} {o : Obj} {HP : Heap → Prop} {Q : Value → Shared → Prop} (B : Begins v o HP) (h1 : HP s.heap)
    (k : ∀ h', IsEnum h' (s.heap.objs.size + 1) s.heap.objs.size 0 .none → h'.get? s.heap.objs.size = some o →
      (∀ b u, s.heap.get? b = some u → h'.get? b = some u) → Q (.ref (s.heap.objs.size + 1)) { s with heap := h' }) :
    wpAny (model prog w) A (call (.type "enumerate") [v]) Q E s := by
  refine callType_new F.called_enumerate (by decide) (F.typeCall_enumerate_1 _) (F.newCall_enumerate_1 _) (fun obj => F.args_object_init_2 obj _)
    F.entry_enumerate_new (newsEnumOf B) ⟨h1, ?_⟩
  have hz : (s.heap.push o).objs.size = s.heap.objs.size + 1 := Heap.size_push ..
  have he : IsEnum ((s.heap.push o).push { cls := .type "enumerate", data := .fields #[.none, .bool false, .ref s.heap.objs.size, rawInt 0, .none, .none] })
      (s.heap.objs.size + 1) s.heap.objs.size 0 .none := by
    have q := Heap.get?_push_size (s.heap.push o)
      (o := { cls := .type "enumerate", data := .fields #[.none, .bool false, .ref s.heap.objs.size, rawInt 0, .none, .none] }) rfl
    rw [hz] at q
    exact q
  show _ ∧ _
  rw [hz]
  exact ⟨⟨_, he, rfl⟩, k _ he (Heap.get?_push_of_some _ (Heap.get?_push_size _ B.free)) fun b u x => Heap.get?_push_of_some _ (Heap.get?_push_of_some _ x)⟩
end
end XC
namespace L2.XK
open PySem PySem.Spec PyProof.Rows XC Evl
/-- the tuple at a, each item in a new pair with its number -/
def IteT (K : PySem.W.Frag) (a : Addr) : It where
  go := fun i H => ∃ (xs : List V) (x : V), SqT K H a xs ∧ xs[i]? = some x
  yld := fun i H v H' => ∃ T x, v = .ref T ∧ H T = none ∧ H' = upd H T (.tup [.int (i : Nat), x]) ∧ ∀ xs, SqT K H a xs → xs[i]? = some x
  stop := fun i H => ∃ xs : List V, SqT K H a xs ∧ xs.length ≤ i
theorem turnEnumT {P : Program} {w : World} {K : PySem.W.Frag} {elts : List Expr} {kk : Nat} {tpos : Pos} (a e it : Addr) :
    Turn P w K (.Tuple elts kk tpos) (IteT K a) [e, it] e (fun i h => (∃ old, IsEnum h e it ((i : Nat) : Int) old) ∧ h.IsTupleIter it a i ∧ e ≠ it) where
  mem := by simp
  obj := fun i h st b hb => by
    obtain ⟨⟨old, he⟩, ⟨o, ho, hc, hd⟩, _⟩ := st
    rcases List.mem_cons.mp hb with rfl | z
    · exact ⟨_, he, fun v q => nomatch q⟩
    · rw [List.mem_singleton.mp z]
      exact ⟨o, ho, fun v q => by rw [hd] at q; cases q⟩
  keep := fun i h h' st k => by
    obtain ⟨⟨old, he⟩, hi, hne⟩ := st
    exact ⟨⟨old, k e (by simp) _ he⟩, hi.at fun o q => k it (by simp) o q, hne⟩
  item := by
    intro X hP hw hK hc i pins s σ H E I hf st hg
    subst hP hw hK
    obtain ⟨⟨old, he⟩, hit, hne⟩ := st
    obtain ⟨xs, x, hq, hx⟩ := hg
    obtain ⟨its, rv, p, hz⟩ := I.tuple hq
    obtain ⟨u, hu, ru⟩ := rv.get hx
    have hi : i < its.toArray.size := by
      have z := (List.getElem?_eq_some_iff.mp hu).1
      simpa using z
    have hel : e < s.heap.objs.size := Heap.lt_size he
    have hil : it < s.heap.objs.size := by obtain ⟨_, q, _⟩ := hit; exact Heap.lt_size q
    have hea : e ≠ a := fun z => by
      obtain ⟨o, q, cq, _⟩ := p
      rw [z] at he
      have w := he.symm.trans q
      cases w
      exact absurd (Value.type.inj cq) (by decide)
    have hia : a ≠ it := fun z => by
      obtain ⟨o, q, cq, _⟩ := p
      obtain ⟨o', q', cq', _⟩ := hit
      rw [← z, q] at q'
      cases q'
      rw [cq] at cq'
      exact absurd (Value.type.inj cq') (by decide)
    refine wpAny_pyNext_enum_itemC (Draws.tuple (show X.A.in1.handled = none from I.ok.hd hc) it a hia its.toArray) he ⟨hit, p⟩ hi hne (by simp [hne, hea]) fun y h' tk hy ho hit' hT hsz hk => ?_
    have ey : y = u := by
      have e1 : its.toArray[i]? = some u := by simpa using hu
      rw [e1] at hy
      exact (Option.some.inj hy).symm
    subst ey
    refine ⟨_, rfl, wpAny_letOwnedTupleGo_enum (s := { s with heap := h', toks := tk + 1 }) ho fun h'' he' sb => ?_⟩
    have hT2 := (sb.2 _ (Nat.ne_of_gt hel)).trans hT
    have new : ObjOk X.prog X.w (upd H s.heap.objs.size (.tup [.int (i : Nat), x])) h'' s.heap.objs.size (.tup [.int (i : Nat), x]) :=
      ⟨by show 2 ≤ sizeLine; decide, [.int i tk, y], .cons ⟨_, rfl⟩ (.cons ru .nil), ⟨_, hT2, rfl, _, rfl⟩⟩
    have I1 : Inv X pins σ (upd H s.heap.objs.size (.tup [.int (i : Nat), x])) { s with heap := h'', toks := tk + 1 } :=
      I.turnedNew (ch := [e, it]) (fun b ob hb q => (sb.2 b (fun z => hb (by simp [z]))).trans (hk b ob (fun z => hb (by simp [z])) (fun z => hb (by simp [z])) q)) hf (Nat.le_refl _) new
    refine ⟨.ref s.heap.objs.size, _, I1, rfl, ⟨_, x, rfl, I.hok.fresh (Nat.le_refl _), rfl, fun ys hy => by rw [I.tuple_inj hy hq]; exact hx⟩, ⟨⟨y, ?_⟩, hit'.1.at fun o q => (sb.2 it (Ne.symm hne)).trans q, hne⟩, fun b hb => ?_⟩
    · have e1 : ((i + 1 : Nat) : Int) = (i : Int) + 1 := by omega
      rw [e1]
      exact he'
    · have hb' : b < s.heap.objs.size := by
        rcases List.mem_cons.mp hb with rfl | z
        · exact hel
        · rw [List.mem_singleton.mp z]
          exact hil
      rw [upd_ne (Nat.ne_of_lt hb')]
      exact (hf b hb).1
  done := by
    intro X hP hw hK hc i pins s σ H E I hf st hg
    subst hP hw hK
    obtain ⟨⟨old, he⟩, hit, hne⟩ := st
    obtain ⟨xs, hq, hx⟩ := hg
    obtain ⟨its, rv, p, hz⟩ := I.tuple hq
    obtain ⟨f0, f1, f2, f3, f4, f5⟩ := hf it (by simp)
    have hl := rv.length
    have hia : a ≠ it := fun z => by
      obtain ⟨o, q, cq, _⟩ := p
      obtain ⟨o', q', cq', _⟩ := hit
      rw [← z, q] at q'
      cases q'
      rw [cq] at cq'
      exact absurd (Value.type.inj cq') (by decide)
    have hd : ∀ (A : Around), A.handled = none → ∀ (s' : Shared) (Q : Value → Shared → Prop) (E : Value → Shared → Prop), s'.heap.IsTupleIter it a i ∧ s'.heap.IsTuple a its.toArray →
      (∀ h' e, Heap.ExtBut it s'.heap h' → (∃ o, h'.get? e = some o ∧ o.cls = .type "StopIteration") → E (.ref e) { s' with heap := h' }) →
      wpAny (model X.prog X.w) A (Builtin.SmallTypes.nextOf (.ref it)) Q E s' := fun A hA s' Q E h k => wpAny_nextOf_tuple_end hA h.1 h.2 (by simp; omega) k
    have D : Draws X.prog X.w X.A.in1 it [it, a] i (fun _ _ => True) (fun j h => (j = i → h.IsTupleIter it a i ∧ h.IsTuple a its.toArray) ∧ j = i) :=
      { live := fun j h q => by obtain ⟨o, ho, _⟩ := (q.1 q.2).1; exact ⟨o, ho⟩
        frame := fun j h h' q k => ⟨fun z => ⟨(q.1 z).1.at fun o e => k it (by simp) o e, by
          obtain ⟨o, ho, r⟩ := (q.1 z).2
          exact ⟨o, k a (by simp) o ho, r⟩⟩, q.2⟩
        item := fun j s Q E hj q => absurd q.2 (by omega)
        done := fun s Q E q k => hd _ (show X.A.in1.handled = none from I.ok.hd hc) s Q E (q.1 q.2) k }
    exact wpAny_pyNext_enum_endD D he ⟨fun _ => ⟨hit, p⟩, rfl⟩ fun h' eb => ⟨rfl, I.turned (t' := s.toks) (fun b o hb q => eb b o hb q) f0 f1 f3 f4 f5⟩
  self := fun A i s Q E st h => by
    obtain ⟨⟨_, he⟩, _⟩ := st
    exact wpAny_pyIter_enum he h
def iEnumT (K : PySem.W.Frag) (ta : TA) : TI := fun σ H R => ta σ H fun vs H1 => ∃ a xs, vs = [.ref a] ∧ SqT K H1 a xs ∧ R (IteT K a) H1
theorem pi_enumT {X : Cx} {e : Expr} {ta : TA} {p pos tpos : Pos} {elts : List Expr} {kk : Nat} (hg : Gl X "enumerate") (hm : X.mg "enumerate" = none) (ha : PA X [e] ta)
    (hs : starEach [e] X.env = [(false, eval e X.env)] := by rfl) : PI X (.Tuple elts kk tpos) (.Call (.Name "enumerate" p) [e] [] pos) (iEnumT X.K ta) := by
  refine ⟨fun pins s σ H R I h => ?_⟩
  refine Call_ (ld_blt I hg hm boot_enumerate (PyProof.Rows.callWith_type1 (thn (ha.run pos pins s σ H _ I h) fun us s1 ⟨vs, H1, I1, r1, q1⟩ => ?_) hs rfl))
  obtain ⟨a, xs, ex, hq, q⟩ := q1
  subst ex
  cases r1 with
  | cons r rr =>
    cases rr
    cases r
    obtain ⟨its, rv, p', hz⟩ := I1.tuple hq
    refine callEnumOf (begins_tuple a its.toArray) p' fun h' he hit hk => wpAny_pyIter_enum he ?_
    have I2 : Inv X pins σ H1 { s1 with heap := h' } := I1.kept (t' := s1.toks) hk
    refine ⟨s1.heap.objs.size + 1, [s1.heap.objs.size + 1, s1.heap.objs.size], _, _, H1, rfl, I2, turnEnumT a (s1.heap.objs.size + 1) s1.heap.objs.size,
      ⟨⟨.none, he⟩, ⟨_, hit, rfl, rfl⟩, Nat.succ_ne_self _⟩, fun b hb => ?_, q⟩
    have hle : s1.heap.objs.size ≤ b := by
      rcases List.mem_cons.mp hb with z | z
      · rw [z]
        exact Nat.le_add_right _ _
      · rw [List.mem_singleton.mp z]
        exact Nat.le_refl _
    exact I1.fpOk hle (I1.hok.fresh hle)
end L2.XK

set_option Elab.async false
set_option maxRecDepth 100000
set_option maxHeartbeats 4000000
set_option linter.all false
/-! Data, its types; what evaluates to what: isinstance of data, len and signs of a text, all of a list, tuples. -/
namespace L2.XK
open PySem PySem.Spec PyProof.Rows XC Evl
mutual
/-- v stands for the data d, tracked, locked or written -/
inductive Da (K : PySem.W.Frag) (H : Hp) : V → PyData → Prop
  | non : Da K H .non .none
  | bl (b : Bool) : Da K H (.bl b) (.bool b)
  | int (i : Int) : Da K H (.int i) (.int i)
  | str (x : Str) (h : x.length ≤ 100000) : Da K H (.str x) (.str x)
  | lst {a : Addr} {xs : List V} {ds : List PyData} : SqL K H a xs → DaAll K H xs ds → Da K H (.ref a) (.list ds)
  | tup {a : Addr} {xs : List V} {ds : List PyData} : SqT K H a xs → DaAll K H xs ds → Da K H (.ref a) (.tuple ds)
  | dic {a : Addr} {kvs : List (Key × V)} {ds : List (PyData × PyData)} : H a = some (.dK kvs) → Da K H (.ref a) (.dict ds)
inductive DaAll (K : PySem.W.Frag) (H : Hp) : List V → List PyData → Prop
  | nil : DaAll K H [] []
  | cons {v : V} {vs : List V} {d : PyData} {ds : List PyData} : Da K H v d → DaAll K H vs ds → DaAll K H (v :: vs) (d :: ds)
end
section
variable {K : PySem.W.Frag} {H H' : Hp}
mutual
theorem Da.ex (e : Ex H H') : ∀ {v : V} {d : PyData}, Da K H v d → Da K H' v d
  | _, _, .non => .non
  | _, _, .bl b => .bl b
  | _, _, .int i => .int i
  | _, _, .str x h => .str x h
  | _, _, .lst h q => .lst (ex_l e h) (DaAll.ex e q)
  | _, _, .tup h q => .tup (ex_t e h) (DaAll.ex e q)
  | _, _, .dic h => .dic (e _ _ h)
theorem DaAll.ex (e : Ex H H') : ∀ {vs : List V} {ds : List PyData}, DaAll K H vs ds → DaAll K H' vs ds
  | _, _, .nil => .nil
  | _, _, .cons p q => .cons (Da.ex e p) (DaAll.ex e q)
end
theorem DaAll.len : ∀ {vs : List V} {ds : List PyData}, DaAll K H vs ds → vs.length = ds.length
  | _, _, .nil => rfl
  | _, _, .cons _ t => congrArg Nat.succ (DaAll.len t)
theorem DaAll.get : ∀ {vs : List V} {ds : List PyData} {i : Nat} {v : V}, DaAll K H vs ds → vs[i]? = some v → ∃ d, ds[i]? = some d ∧ Da K H v d
  | _, _, 0, _, .cons p _, h => ⟨_, rfl, by cases h; exact p⟩
  | _, _, i + 1, _, .cons _ t, h => DaAll.get (i := i) t h
  | _, _, i, _, .nil, h => by simp at h
theorem DaAll.strs : ∀ (l : List Str), (∀ x ∈ l, x.length ≤ 100000) → DaAll K H (l.map V.str) (l.map PyData.str)
  | [], _ => .nil
  | x :: l, h => .cons (.str x (h x (by simp))) (DaAll.strs l fun y hy => h y (by simp [hy]))
def tyN : PyData → String
  | .none => "NoneType"
  | .bool _ => "bool"
  | .int _ => "int"
  | .str _ => "str"
  | .list _ => "list"
  | .tuple _ => "tuple"
  | .dict _ => "dict"
theorem Da.ty {v : V} {d : PyData} (h : Da K H v d) : TyX K H v (.type (tyN d)) := by
  cases h with
  | non => exact .base .non
  | bl b => exact .base (.bl b)
  | int i => exact .base (.int i)
  | str x _ => exact .base (.str x)
  | lst h _ =>
    rcases h with (h | ⟨o, h⟩) | ⟨o, _, _, h, c, _⟩
    · exact .base (.lst h)
    · exact .base (.frz h)
    · exact .kList h c
  | tup h _ =>
    rcases h with (h | ⟨o, h⟩) | ⟨o, _, _, h, c, _⟩
    · exact .base (.tup h)
    · exact .fTuple h
    · exact .kTuple h c
  | dic h => exact .base (.dK h)
def isTy (T a : String) : Bool := a == T || (T == "int" && a == "bool")
def isD (T : String) (d : PyData) : Bool := isTy T (tyN d)
theorem kitAll : ∀ a ∈ ["NoneType", "bool", "int", "str", "list", "tuple", "dict"], ∀ T ∈ ["int", "bool", "str", "tuple"], kitB a T = some (isTy T a) := by decide +kernel
theorem kitD {T : String} (hT : T ∈ ["int", "bool", "str", "tuple"]) (d : PyData) : PySem.W.kitOne K (.type (tyN d)) (.type T) = some (isD T d) :=
  kit_ty (kitAll _ (by cases d <;> simp [tyN]) T hT)
end
section
variable {K : PySem.W.Frag} {σ : L2.St} {H : Hp} {ta tb tc te : TE}
theorem ev_isi {x : V} {d : PyData} {T : String} (hT : T ∈ ["int", "bool", "str", "tuple"]) (ha : Ev ta σ H x) (hd : Da K H x d) :
    Ev (tCB (rIsi K) (tCons ta (tCons (tC (.ty T)) tNil))) σ H (.bl (isD T d)) := fun H1 e Q q =>
  ha H1 e _ fun H2 e2 => ⟨x, .ty T, _, _, _, rfl, .ty T, (hd.ex (e.trans e2)).ty, kitD hT d, q H2 e2⟩
theorem isD_str {d : PyData} (h : isD "str" d = true) : ∃ s, d = .str s := by
  cases d <;> first | exact ⟨_, rfl⟩ | (exact absurd h (by simp [isD, isTy, tyN]))
theorem isD_tup {d : PyData} (h : isD "tuple" d = true) : ∃ s, d = .tuple s := by
  cases d <;> first | exact ⟨_, rfl⟩ | (exact absurd h (by simp [isD, isTy, tyN]))
theorem ev_lenS {x : Str} (ha : Ev ta σ H (.str x)) (hz : x.length ≤ 100000) : Ev (tCB (fun xs H Q => ∃ x n, xs = [x] ∧ LenV K x H n ∧ Q (.int n) H) (tCons ta tNil)) σ H (.int (x.length : Int)) := fun H1 e Q q =>
  ha H1 e _ fun H2 e2 => ⟨_, x.length, rfl, ⟨sz_of hz, rfl⟩, q H2 e2⟩
theorem ev_lenT {p : Addr} {xs : List V} (ha : Ev ta σ H (.ref p)) (h : SqT K H p xs) : Ev (tCB (fun xs H Q => ∃ x n, xs = [x] ∧ LenV K x H n ∧ Q (.int n) H) (tCons ta tNil)) σ H (.int (xs.length : Int)) := fun H1 e Q q =>
  ha H1 e _ fun H2 e2 => ⟨_, xs.length, rfl, .inr ⟨xs, ex_t (e.trans e2) h, rfl⟩, q H2 e2⟩
theorem ev_lenL {p : Addr} {xs : List V} (ha : Ev ta σ H (.ref p)) (h : SqL K H p xs) : Ev (tCB (fun xs H Q => ∃ x n, xs = [x] ∧ LenV K x H n ∧ Q (.int n) H) (tCons ta tNil)) σ H (.int (xs.length : Int)) := fun H1 e Q q =>
  ha H1 e _ fun H2 e2 => ⟨_, xs.length, rfl, .inl ⟨xs, ex_l (e.trans e2) h, rfl⟩, q H2 e2⟩
/-- a list made sign by sign of a text -/
theorem el_lcS {z : Str} {j : Nat} {vs : List Nat} (v : Nat → V) (h : Ev te σ H (.str z)) (hz : z.length ≤ 40000) (hw : ∀ x, wipe ((wipe σ vs).set j (some x)) vs = wipe σ vs)
    (he : ∀ (i c : Nat) H1, Ex H H1 → z.cps[i]? = some c → Ev tb ((wipe σ vs).set j (some (.str ⟨#[c]⟩))) H1 (v i)) :
    EvL (tLc (iStr te) (gName j) tYes tb vs) σ H ((List.range z.cps.size).map v) := fun H0 e Q q => h H0 e _ fun H1 e1 => ⟨z, rfl, fun Dl hD => by
  have hz' : z.cps.size ≤ 40000 := hz
  refine lc_it walk_str (fun i H' => H1 Dl = none ∧ Ex H1 H' ∧ H' Dl = some (.lst ((List.range i).map v))) ⟨hD, Ex.new hD, upd_same⟩ (fun i H' _ _ => True.intro) ?_ ?_
  · rintro i x H' H2 hi ⟨p1, p2, p3⟩ ⟨rfl, c, hc, rfl⟩
    refine ⟨hw _, ?_⟩
    refine he i c H1 (e.trans e1) hc H2 p2 _ fun H4 e4 => ⟨(List.range i).map v, e4 _ _ p3, sz_lt (by simp; omega), p1, Ex.mut (p2.trans e4) p1, ?_⟩
    rw [List.range_succ, List.map_append]
    exact upd_same
  · exact fun H' p => q Dl H' (fresh_back e1 p.1) (e1.trans p.2.1) p.2.2⟩
theorem el_lcT {a : Addr} {xs : List V} {j : Nat} {vs : List Nat} (v : Nat → V) (h : Ev te σ H (.ref a)) (hx : SqT K H a xs) (hz : xs.length ≤ 40000) (hw : ∀ x, wipe ((wipe σ vs).set j (some x)) vs = wipe σ vs)
    (he : ∀ (i : Nat) (x : V) H1, Ex H H1 → xs[i]? = some x → Ev tb ((wipe σ vs).set j (some x)) H1 (v i)) :
    EvL (tLc (iTup K te) (gName j) tYes tb vs) σ H ((List.range xs.length).map v) := fun H0 e Q q => h H0 e _ fun H1 e1 => ⟨a, rfl, ⟨xs, ex_t (e.trans e1) hx⟩, fun Dl hD =>
  lc_tup (xs := xs) (fun i H' => H1 Dl = none ∧ Ex H1 H' ∧ H' Dl = some (.lst ((List.range i).map v))) ⟨hD, Ex.new hD, upd_same⟩ (fun i H' _ p => ex_t ((e.trans e1).trans p.2.1) hx)
    (fun i x H' hi ⟨p1, p2, p3⟩ => ⟨hw _, he i x H1 (e.trans e1) hi H' p2 _ fun H4 e4 => ⟨(List.range i).map v, e4 _ _ p3, sz_lt (by
      have := (List.getElem?_eq_some_iff.mp hi).1
      simp; omega), p1, Ex.mut (p2.trans e4) p1, by
        rw [List.range_succ, List.map_append]
        exact upd_same⟩⟩)
    (fun H' p => q Dl H' (fresh_back e1 p.1) (e1.trans p.2.1) p.2.2)⟩
theorem ev_all {bs : List Bool} (ha : EvL ta σ H (bs.map V.bl)) : Ev (tCB (rAll K) (tCons ta tNil)) σ H (.bl (bs.all id)) := fun H1 e Q q =>
  ha H1 e _ fun p H2 _ e2 hp => ⟨p, bs, rfl, sq_of hp, q H2 e2⟩
/-- tuple(list) -/
theorem eu_tupL {xs : List V} (ha : EvL ta σ H xs) : EvU (tCB (fun vs H Q => ∃ p ys, vs = [.ref p] ∧ ((SqL K H p ys ∧ ∀ l, H l = none → Q (.ref l) (upd H l (.tup ys))) ∨ (SqT K H p ys ∧ Q (.ref p) H))) (tCons ta tNil)) σ H xs :=
  fun H1 e Q q => ha H1 e _ fun p H2 _ e2 hp => ⟨p, xs, rfl, .inl ⟨sq_of hp, fun l hl => q l _ (fresh_back e2 hl) (e2.trans (Ex.new hl)) upd_same⟩⟩
/-- a pure def that gives a truth value -/
def SpB (P : List V → Hp → Bool → Prop) : Sp := fun vs H Q _ => ∃ b, P vs H b ∧ ∀ H', Ex H H' → Q (.bl b) H'
theorem spb {P : List V → Hp → Bool → Prop} {vs : List V} {b : Bool} (h : ∀ H1, Ex H H1 → P vs H1 b) : SpV (SpB P) vs H (.bl b) := fun H1 e Q q E =>
  ⟨b, h H1 e, fun H' e' => q H' e'⟩
theorem ev_callB {P : List V → Hp → Bool → Prop} {vs : List V} {E : XK} {tas : TA} {b : Bool} (h : EvA tas σ H vs) (hs : ∀ H1, Ex H H1 → P vs H1 b) : Ev (tCall (SpB P) [] E tas) σ H (.bl b) :=
  ev_call h (by rw [List.append_nil]; exact spb hs)
end
end L2.XK

set_option Elab.async false
set_option maxRecDepth 100000
set_option maxHeartbeats 4000000
namespace L2.KC
open PySem PySem.Spec PyProof.Rows
def topS (i : Nat) : Stmt := PySem.Challenge.pw_holdhouse_k57_books_keep_houses.main.body.getD i (.Pass ⟨0, 0, 0, 0⟩)
abbrev sIsInteger : Stmt := topS 22
abbrev NIsInteger : List Str := ["thing"]
theorem scIsInteger : FnScope NIsInteger ["thing"] (defScope sIsInteger) := ⟨rfl, rfl, rfl, by decide +kernel, rfl, by decide +kernel, by decide +kernel⟩
abbrev sIsBetween : Stmt := topS 23
abbrev NIsBetween : List Str := ["thing", "least", "most"]
theorem scIsBetween : FnScope NIsBetween ["thing", "least", "most"] (defScope sIsBetween) := ⟨rfl, rfl, rfl, by decide +kernel, rfl, by decide +kernel, by decide +kernel⟩
abbrev sIsWord : Stmt := topS 24
abbrev NIsWord : List Str := ["thing", "sign"]
theorem scIsWord : FnScope NIsWord ["thing"] (defScope sIsWord) := ⟨rfl, rfl, rfl, by decide +kernel, rfl, by decide +kernel, by decide +kernel⟩
abbrev sIsStand : Stmt := topS 25
abbrev NIsStand : List Str := ["thing"]
theorem scIsStand : FnScope NIsStand ["thing"] (defScope sIsStand) := ⟨rfl, rfl, rfl, by decide +kernel, rfl, by decide +kernel, by decide +kernel⟩
abbrev sWrongStand : Stmt := topS 26
abbrev NWrongStand : List Str := ["stands", "at", "pair"]
theorem scWrongStand : FnScope NWrongStand ["stands"] (defScope sWrongStand) := ⟨rfl, rfl, rfl, by decide +kernel, rfl, by decide +kernel, by decide +kernel⟩
abbrev sStandWords : Stmt := topS 27
abbrev NStandWords : List Str := ["stands", "pair"]
theorem scStandWords : FnScope NStandWords ["stands"] (defScope sStandWords) := ⟨rfl, rfl, rfl, by decide +kernel, rfl, by decide +kernel, by decide +kernel⟩
abbrev sWrongKey : Stmt := topS 28
abbrev NWrongKey : List Str := ["keys", "at", "word"]
theorem scWrongKey : FnScope NWrongKey ["keys"] (defScope sWrongKey) := ⟨rfl, rfl, rfl, by decide +kernel, rfl, by decide +kernel, by decide +kernel⟩
abbrev sWrongRow : Stmt := topS 29
abbrev NWrongRow : List Str := ["rows", "stands", "keys", "at", "row"]
theorem scWrongRow : FnScope NWrongRow ["rows", "stands", "keys"] (defScope sWrongRow) := ⟨rfl, rfl, rfl, by decide +kernel, rfl, by decide +kernel, by decide +kernel⟩
abbrev sIsRow : Stmt := topS 30
abbrev NIsRow : List Str := ["thing", "stands", "keys", "words", "occasion", "conditions", "deeds", "condition", "deed"]
theorem scIsRow : FnScope NIsRow ["thing", "stands", "keys"] (defScope sIsRow) := ⟨rfl, rfl, rfl, by decide +kernel, rfl, by decide +kernel, by decide +kernel⟩
abbrev sRowParts : Stmt := topS 31
abbrev NRowParts : List Str := ["row", "conditions", "head", "colon", "tail", "occasion", "joint", "rest"]
theorem scRowParts : FnScope NRowParts ["row"] (defScope sRowParts) := ⟨rfl, rfl, rfl, by decide +kernel, rfl, by decide +kernel, by decide +kernel⟩
abbrev sIsOccasion : Stmt := topS 32
abbrev NIsOccasion : List Str := ["text", "keys"]
theorem scIsOccasion : FnScope NIsOccasion ["text", "keys"] (defScope sIsOccasion) := ⟨rfl, rfl, rfl, by decide +kernel, rfl, by decide +kernel, by decide +kernel⟩
abbrev sIsCondition : Stmt := topS 33
abbrev NIsCondition : List Str := ["text", "occasion", "words", "plain", "wanted"]
theorem scIsCondition : FnScope NIsCondition ["text", "occasion", "words"] (defScope sIsCondition) := ⟨rfl, rfl, rfl, by decide +kernel, rfl, by decide +kernel, by decide +kernel⟩
abbrev sConditionParts : Stmt := topS 34
abbrev NConditionParts : List Str := ["text"]
theorem scConditionParts : FnScope NConditionParts ["text"] (defScope sConditionParts) := ⟨rfl, rfl, rfl, by decide +kernel, rfl, by decide +kernel, by decide +kernel⟩
abbrev sIsLineCondition : Stmt := topS 35
abbrev NIsLineCondition : List Str := ["plain", "words"]
theorem scIsLineCondition : FnScope NIsLineCondition ["plain", "words"] (defScope sIsLineCondition) := ⟨rfl, rfl, rfl, by decide +kernel, rfl, by decide +kernel, by decide +kernel⟩
abbrev sIsDeed : Stmt := topS 38
abbrev NIsDeed : List Str := ["text", "occasion", "words"]
theorem scIsDeed : FnScope NIsDeed ["text", "occasion", "words"] (defScope sIsDeed) := ⟨rfl, rfl, rfl, by decide +kernel, rfl, by decide +kernel, by decide +kernel⟩
abbrev sHasPhone : Stmt := topS 39
abbrev NHasPhone : List Str := ["occasion"]
theorem scHasPhone : FnScope NHasPhone ["occasion"] (defScope sHasPhone) := ⟨rfl, rfl, rfl, by decide +kernel, rfl, by decide +kernel, by decide +kernel⟩
abbrev sHasKey : Stmt := topS 40
abbrev NHasKey : List Str := ["occasion"]
theorem scHasKey : FnScope NHasKey ["occasion"] (defScope sHasKey) := ⟨rfl, rfl, rfl, by decide +kernel, rfl, by decide +kernel, by decide +kernel⟩
abbrev sNamesOne : Stmt := topS 41
abbrev NNamesOne : List Str := ["text", "opening", "words"]
theorem scNamesOne : FnScope NNamesOne ["text", "opening", "words"] (defScope sNamesOne) := ⟨rfl, rfl, rfl, by decide +kernel, rfl, by decide +kernel, by decide +kernel⟩
def wPartingWords : List Str := ["and", "if", "not"]
def wHeardWords : List Str := ["voice", "stranger", "both", "over", "gone"]
def wPlainOccasions : List Str := ["call", "gone", "late", "lay"]
def wLineConditions : List Str := ["caller", "joined", "a", "b", "ear a", "ear b"]
def wPhoneConditions : List Str := ["me a", "me b", "busy"]
def wLineDeeds : List Str := ["a none", "a some", "b none", "b some", "swap", "deaf", "part"]
def wPhoneDeeds : List Str := ["a me", "b me"]
def wKeyDeeds : List Str := ["hear", "join"]
/-- where the checks stand -/
structure AdrC where
  IsInteger : Addr
  fdIsInteger : FuncData
  IsBetween : Addr
  fdIsBetween : FuncData
  IsWord : Addr
  fdIsWord : FuncData
  IsStand : Addr
  fdIsStand : FuncData
  WrongStand : Addr
  fdWrongStand : FuncData
  StandWords : Addr
  fdStandWords : FuncData
  WrongKey : Addr
  fdWrongKey : FuncData
  WrongRow : Addr
  fdWrongRow : FuncData
  IsRow : Addr
  fdIsRow : FuncData
  RowParts : Addr
  fdRowParts : FuncData
  IsOccasion : Addr
  fdIsOccasion : FuncData
  IsCondition : Addr
  fdIsCondition : FuncData
  ConditionParts : Addr
  fdConditionParts : FuncData
  IsLineCondition : Addr
  fdIsLineCondition : FuncData
  IsDeed : Addr
  fdIsDeed : FuncData
  HasPhone : Addr
  fdHasPhone : FuncData
  HasKey : Addr
  fdHasKey : FuncData
  NamesOne : Addr
  fdNamesOne : FuncData
  tMostConditions : Tok
  tMostDeeds : Tok
  tLongestWord : Tok
  tMostLines : Tok
  tMostStands : Tok
  tMostKeys : Tok
  tMostRows : Tok
  tFewestStands : Tok
  rPartingWords : Addr
  rHeardWords : Addr
  rPlainOccasions : Addr
  rLineConditions : Addr
  rPhoneConditions : Addr
  rLineDeeds : Addr
  rPhoneDeeds : Addr
  rKeyDeeds : Addr
  tKeyOpening : Tok
  tStandConditionOpening : Tok
  tStandDeedOpening : Tok
def WT (K : PySem.W.Frag) (r : Addr) (l : List Str) : Prop := ∀ H, SqT K H r (l.map V.str)
/-- what the top has written of the checks -/
structure TxtC (K : PySem.W.Frag) (mg : Str → Option Value) (a : AdrC) : Prop where
  gIsInteger : mg "is_integer" = some (.ref a.IsInteger)
  kIsInteger : PySem.W.keepIn K (.ref a.IsInteger) = true
  fIsInteger : Fun K "is_integer" "is_integer" sIsInteger a.IsInteger a.fdIsInteger
  bIsInteger : Binds K a.fdIsInteger ["thing"] []
  gIsBetween : mg "is_between" = some (.ref a.IsBetween)
  kIsBetween : PySem.W.keepIn K (.ref a.IsBetween) = true
  fIsBetween : Fun K "is_between" "is_between" sIsBetween a.IsBetween a.fdIsBetween
  bIsBetween : Binds K a.fdIsBetween ["thing", "least", "most"] []
  gIsWord : mg "is_word" = some (.ref a.IsWord)
  kIsWord : PySem.W.keepIn K (.ref a.IsWord) = true
  fIsWord : Fun K "is_word" "is_word" sIsWord a.IsWord a.fdIsWord
  bIsWord : Binds K a.fdIsWord ["thing"] []
  gIsStand : mg "is_stand" = some (.ref a.IsStand)
  kIsStand : PySem.W.keepIn K (.ref a.IsStand) = true
  fIsStand : Fun K "is_stand" "is_stand" sIsStand a.IsStand a.fdIsStand
  bIsStand : Binds K a.fdIsStand ["thing"] []
  gWrongStand : mg "wrong_stand" = some (.ref a.WrongStand)
  kWrongStand : PySem.W.keepIn K (.ref a.WrongStand) = true
  fWrongStand : Fun K "wrong_stand" "wrong_stand" sWrongStand a.WrongStand a.fdWrongStand
  bWrongStand : Binds K a.fdWrongStand ["stands"] []
  gStandWords : mg "stand_words" = some (.ref a.StandWords)
  kStandWords : PySem.W.keepIn K (.ref a.StandWords) = true
  fStandWords : Fun K "stand_words" "stand_words" sStandWords a.StandWords a.fdStandWords
  bStandWords : Binds K a.fdStandWords ["stands"] []
  gWrongKey : mg "wrong_key" = some (.ref a.WrongKey)
  kWrongKey : PySem.W.keepIn K (.ref a.WrongKey) = true
  fWrongKey : Fun K "wrong_key" "wrong_key" sWrongKey a.WrongKey a.fdWrongKey
  bWrongKey : Binds K a.fdWrongKey ["keys"] []
  gWrongRow : mg "wrong_row" = some (.ref a.WrongRow)
  kWrongRow : PySem.W.keepIn K (.ref a.WrongRow) = true
  fWrongRow : Fun K "wrong_row" "wrong_row" sWrongRow a.WrongRow a.fdWrongRow
  bWrongRow : Binds K a.fdWrongRow ["rows", "stands", "keys"] []
  gIsRow : mg "is_row" = some (.ref a.IsRow)
  kIsRow : PySem.W.keepIn K (.ref a.IsRow) = true
  fIsRow : Fun K "is_row" "is_row" sIsRow a.IsRow a.fdIsRow
  bIsRow : Binds K a.fdIsRow ["thing", "stands", "keys"] []
  gRowParts : mg "row_parts" = some (.ref a.RowParts)
  kRowParts : PySem.W.keepIn K (.ref a.RowParts) = true
  fRowParts : Fun K "row_parts" "row_parts" sRowParts a.RowParts a.fdRowParts
  bRowParts : Binds K a.fdRowParts ["row"] []
  gIsOccasion : mg "is_occasion" = some (.ref a.IsOccasion)
  kIsOccasion : PySem.W.keepIn K (.ref a.IsOccasion) = true
  fIsOccasion : Fun K "is_occasion" "is_occasion" sIsOccasion a.IsOccasion a.fdIsOccasion
  bIsOccasion : Binds K a.fdIsOccasion ["text", "keys"] []
  gIsCondition : mg "is_condition" = some (.ref a.IsCondition)
  kIsCondition : PySem.W.keepIn K (.ref a.IsCondition) = true
  fIsCondition : Fun K "is_condition" "is_condition" sIsCondition a.IsCondition a.fdIsCondition
  bIsCondition : Binds K a.fdIsCondition ["text", "occasion", "words"] []
  gConditionParts : mg "condition_parts" = some (.ref a.ConditionParts)
  kConditionParts : PySem.W.keepIn K (.ref a.ConditionParts) = true
  fConditionParts : Fun K "condition_parts" "condition_parts" sConditionParts a.ConditionParts a.fdConditionParts
  bConditionParts : Binds K a.fdConditionParts ["text"] []
  gIsLineCondition : mg "is_line_condition" = some (.ref a.IsLineCondition)
  kIsLineCondition : PySem.W.keepIn K (.ref a.IsLineCondition) = true
  fIsLineCondition : Fun K "is_line_condition" "is_line_condition" sIsLineCondition a.IsLineCondition a.fdIsLineCondition
  bIsLineCondition : Binds K a.fdIsLineCondition ["plain", "words"] []
  gIsDeed : mg "is_deed" = some (.ref a.IsDeed)
  kIsDeed : PySem.W.keepIn K (.ref a.IsDeed) = true
  fIsDeed : Fun K "is_deed" "is_deed" sIsDeed a.IsDeed a.fdIsDeed
  bIsDeed : Binds K a.fdIsDeed ["text", "occasion", "words"] []
  gHasPhone : mg "has_phone" = some (.ref a.HasPhone)
  kHasPhone : PySem.W.keepIn K (.ref a.HasPhone) = true
  fHasPhone : Fun K "has_phone" "has_phone" sHasPhone a.HasPhone a.fdHasPhone
  bHasPhone : Binds K a.fdHasPhone ["occasion"] []
  gHasKey : mg "has_key" = some (.ref a.HasKey)
  kHasKey : PySem.W.keepIn K (.ref a.HasKey) = true
  fHasKey : Fun K "has_key" "has_key" sHasKey a.HasKey a.fdHasKey
  bHasKey : Binds K a.fdHasKey ["occasion"] []
  gNamesOne : mg "names_one" = some (.ref a.NamesOne)
  kNamesOne : PySem.W.keepIn K (.ref a.NamesOne) = true
  fNamesOne : Fun K "names_one" "names_one" sNamesOne a.NamesOne a.fdNamesOne
  bNamesOne : Binds K a.fdNamesOne ["text", "opening", "words"] []
  blen : mg "len" = none
  bisinstance : mg "isinstance" = none
  bint : mg "int" = none
  bbool : mg "bool" = none
  bstr : mg "str" = none
  btuple : mg "tuple" = none
  ball : mg "all" = none
  benumerate : mg "enumerate" = none
  mgMostConditions : mg "MOST_CONDITIONS" = some (.int 4 a.tMostConditions)
  mgMostDeeds : mg "MOST_DEEDS" = some (.int 4 a.tMostDeeds)
  mgLongestWord : mg "LONGEST_WORD" = some (.int 8 a.tLongestWord)
  mgMostLines : mg "MOST_LINES" = some (.int 3 a.tMostLines)
  mgMostStands : mg "MOST_STANDS" = some (.int 6 a.tMostStands)
  mgMostKeys : mg "MOST_KEYS" = some (.int 3 a.tMostKeys)
  mgMostRows : mg "MOST_ROWS" = some (.int 16 a.tMostRows)
  mgFewestStands : mg "FEWEST_STANDS" = some (.int 2 a.tFewestStands)
  mgPartingWords : mg "PARTING_WORDS" = some (.ref a.rPartingWords)
  wPartingWords : WT K a.rPartingWords wPartingWords
  mgHeardWords : mg "HEARD_WORDS" = some (.ref a.rHeardWords)
  wHeardWords : WT K a.rHeardWords wHeardWords
  mgPlainOccasions : mg "PLAIN_OCCASIONS" = some (.ref a.rPlainOccasions)
  wPlainOccasions : WT K a.rPlainOccasions wPlainOccasions
  mgLineConditions : mg "LINE_CONDITIONS" = some (.ref a.rLineConditions)
  wLineConditions : WT K a.rLineConditions wLineConditions
  mgPhoneConditions : mg "PHONE_CONDITIONS" = some (.ref a.rPhoneConditions)
  wPhoneConditions : WT K a.rPhoneConditions wPhoneConditions
  mgLineDeeds : mg "LINE_DEEDS" = some (.ref a.rLineDeeds)
  wLineDeeds : WT K a.rLineDeeds wLineDeeds
  mgPhoneDeeds : mg "PHONE_DEEDS" = some (.ref a.rPhoneDeeds)
  wPhoneDeeds : WT K a.rPhoneDeeds wPhoneDeeds
  mgKeyDeeds : mg "KEY_DEEDS" = some (.ref a.rKeyDeeds)
  wKeyDeeds : WT K a.rKeyDeeds wKeyDeeds
  mgKeyOpening : mg "KEY_OPENING" = some (.str "key " a.tKeyOpening)
  mgStandConditionOpening : mg "STAND_CONDITION_OPENING" = some (.str "in " a.tStandConditionOpening)
  mgStandDeedOpening : mg "STAND_DEED_OPENING" = some (.str "stand " a.tStandDeedOpening)
end L2.KC

set_option Elab.async false
set_option maxRecDepth 100000
set_option maxHeartbeats 4000000
set_option linter.all false
/-! The checks of words, of conditions and deeds. -/
namespace L2.XK
open PySem PySem.Spec PyProof.Rows XC Evl
section
variable {K : PySem.W.Frag} {σ : L2.St} {H : Hp} {ta tb tc te : TE}
theorem ev_slS {tl th : TO} {z : Str} {lo hi : Option Int} (h : Ev te σ H (.str z)) (h1 : EvO tl σ H lo) (h2 : EvO th σ H hi) (hz : z.length ≤ 100000) :
    Ev (tSl rSlS te tl th) σ H (.str (cutS z lo hi)) := fun H1 e Q q =>
  h H1 e _ fun H2 e2 => h1 H2 (e.trans e2) _ fun H3 e3 => h2 H3 ((e.trans e2).trans e3) _ fun H4 e4 => ⟨z, rfl, sz_of hz, q H4 ((e2.trans e3).trans e4)⟩
theorem ev_starts {x y : Str} (ha : Ev ta σ H (.str x)) (hb : Ev tb σ H (.str y)) :
    Ev (tBM K "str" (fun x xs H Q => ∃ a b, x = .str a ∧ xs = [.str b] ∧ Q (.bl (Txt.startswith a b)) H) ta (tCons tb tNil)) σ H (.bl (Txt.startswith x y)) := fun H1 e Q q =>
  ha H1 e _ fun H2 e2 => ⟨rfl, hb H2 (e.trans e2) _ fun H3 e3 => ⟨x, y, rfl, rfl, q H3 (e2.trans e3)⟩⟩
theorem ev_inT {neg : Bool} {x : V} {p : Addr} {xs : List V} (ha : Ev ta σ H x) (hb : Ev tb σ H (.ref p)) (h : SqT K H p xs) (hx : flatV x = true) (hf : xs.all flatV = true) :
    Ev (tOp (rIn K neg) ta tb) σ H (.bl (if neg then !inV x xs else inV x xs)) := ev_op ha hb (rv_inT h hx hf)
theorem flatStrs (l : List Str) : (l.map V.str).all flatV = true := by
  rw [List.all_map]
  exact List.all_eq_true.mpr fun _ _ => rfl
theorem flatStr (x : Str) : flatV (.str x) = true := rfl
end
end L2.XK
namespace L2.KC
open PySem PySem.Spec PyProof.Rows XK Evl
def inS (z : Str) (ws : List Str) : Bool := inV (.str z) (ws.map V.str)
def nameOne (t o : Str) (ws : List Str) : Bool := Txt.startswith t o && inS (cutS t (some (o.length : Int)) none) ws
def keyS (s : Str) : Bool := Txt.startswith s "key "
def phoneS (s : Str) : Bool := decide (V.str s = V.str "lay") || keyS s
def occOk (s : Str) (keys : List Str) : Bool := inS s wPlainOccasions || nameOne s "key " keys
def plainS (s : Str) : Str := if Txt.startswith s "not " then cutS s (some (("not " : Str).length : Int)) none else s
def condOk (s occ : Str) (words : List Str) : Bool :=
  if inS (plainS s) wPhoneConditions then phoneS occ else inS (plainS s) wLineConditions || nameOne (plainS s) "in " words
def deedOk (s occ : Str) (words : List Str) : Bool :=
  if inS s wPhoneDeeds then phoneS occ else if inS s wKeyDeeds then keyS occ else inS s wLineDeeds || nameOne s "stand " words
def intOf (d : PyData) : Int := match d with
  | .int i => i
  | _ => 0
def betw (d : PyData) (lo hi : Int) : Bool := match d with
  | .int i => decide (lo ≤ i) && decide (i ≤ hi)
  | _ => false
section
variable {P : Program} {w : World} {K : PySem.W.Frag} {mg : Str → Option Value} {base : Heap} {a : AdrC}
def pBetween (K : PySem.W.Frag) : List V → Hp → Bool → Prop := fun vs H b => ∃ x d lo hi, vs = [x, .int lo, .int hi] ∧ Da K H x d ∧ b = betw d lo hi
def pKey : List V → Hp → Bool → Prop := fun vs _ b => ∃ s, vs = [.str s] ∧ b = keyS s
def pPhone : List V → Hp → Bool → Prop := fun vs _ b => ∃ s, vs = [.str s] ∧ b = phoneS s
def pNames (K : PySem.W.Frag) : List V → Hp → Bool → Prop := fun vs H b => ∃ t o r ws, vs = [.str t, .str o, .ref r] ∧ SqT K H r (ws.map V.str) ∧ t.length ≤ 100000 ∧ o.length ≤ 100000 ∧ b = nameOne t o ws
def pOcc (K : PySem.W.Frag) : List V → Hp → Bool → Prop := fun vs H b => ∃ t r ws, vs = [.str t, .ref r] ∧ SqT K H r (ws.map V.str) ∧ t.length ≤ 100000 ∧ b = occOk t ws
def pCond (K : PySem.W.Frag) : List V → Hp → Bool → Prop := fun vs H b => ∃ t o r ws, vs = [.str t, .str o, .ref r] ∧ SqT K H r (ws.map V.str) ∧ t.length ≤ 100000 ∧ b = condOk t o ws
def pDeed (K : PySem.W.Frag) : List V → Hp → Bool → Prop := fun vs H b => ∃ t o r ws, vs = [.str t, .str o, .ref r] ∧ SqT K H r (ws.map V.str) ∧ t.length ≤ 100000 ∧ b = deedOk t o ws
def pInt (K : PySem.W.Frag) : List V → Hp → Bool → Prop := fun vs H b => ∃ x d, vs = [x] ∧ Da K H x d ∧ b = (isD "int" d && !isD "bool" d)
theorem ok_int (T : TxtC K mg a) : FnOk P w K mg base CX0 1 a.IsInteger a.fdIsInteger ["thing"] (SpB (pInt K)) := by
  refine T.fIsInteger.ok scIsInteger (fun vs H Q E h => ?_) (fun cdv A outer s H vs Q E hr h => ?_)
  · obtain ⟨b, ⟨x, d, rfl, _⟩, _⟩ := h
    rfl
  · obtain ⟨b, ⟨x, d, rfl, hd, rfl⟩, k⟩ := h
    refine ⟨_, (pss_one (ps_ret (by exact (pe_and (pe_callB (id := "isinstance") (r := rIsi K) call_isi (by rfl) T.bisinstance (by decide +kernel) (pa_cons (pv 0) (pa_cons (pe_bltn (v := .ty "int") (by rfl) T.bint (by decide +kernel) rfl) pa_nil))) (pe_one (pe_not (pe_callB (id := "isinstance") (r := rIsi K) call_isi (by rfl) T.bisinstance (by decide +kernel) (pa_cons (pv 0) (pa_cons (pe_bltn (v := .ty "bool") (by rfl) T.bbool (by decide +kernel) rfl) pa_nil))))))))), ?_⟩
    have v0 : ∀ H', Ev (tVar 0) (start NIsInteger [x]) H' x := fun H' => ev_var rfl
    exact s_ret (ev_andV (ev_isi (by decide) (v0 _) hd) fun h1 => ev_notV (ev_isi (by decide) (v0 _) hd)) fun H1 e1 => k H1 e1
theorem ok_between (T : TxtC K mg a) : FnOk P w K mg base CX0 2 a.IsBetween a.fdIsBetween ["thing", "least", "most"] (SpB (pBetween K)) := by
  have GIsInteger : FnOk P w K mg base CX0 1 a.IsInteger a.fdIsInteger ["thing"] (SpB (pInt K)) := ok_int T
  refine T.fIsBetween.ok scIsBetween (fun vs H Q E h => ?_) (fun cdv A outer s H vs Q E hr h => ?_)
  · obtain ⟨b, ⟨x, d, lo, hi, rfl, _⟩, _⟩ := h
    rfl
  · obtain ⟨b, ⟨x, d, lo, hi, rfl, hd, rfl⟩, k⟩ := h
    refine ⟨_, (pss_one (ps_ret (by exact (pe_and (pe_call GIsInteger (hr.mono (by decide)) (by rfl) T.gIsInteger T.kIsInteger T.bIsInteger .nil pass0 (pa_cons (pv 0) pa_nil)) (pe_one (pe_chain op_le op_le (pv 1) (pv 0) (pv 2))))))), ?_⟩
    have v0 : ∀ H', Ev (tVar 0) (start NIsBetween [x, .int lo, .int hi]) H' x := fun H' => ev_var rfl
    refine s_ret (v := .bl (betw d lo hi)) ?_ fun H1 e1 => k H1 e1
    refine ev_is (v := .bl ((isD "int" d && !isD "bool" d) && (decide (lo ≤ intOf d) && decide (intOf d ≤ hi)))) (ev_andV (ev_callB (ea_cons (v0 _) ea_nil) fun H1 e1 => ⟨x, d, rfl, hd.ex e1, rfl⟩) fun h2 => ?_) ?_
    · have hi' : ∃ i, d = .int i := by
        cases d <;> first | exact ⟨_, rfl⟩ | (simp [isD, isTy, tyN] at h2)
      obtain ⟨i, rfl⟩ := hi'
      cases hd
      exact ev_chain (ev_var (by rfl)) (v0 _) rv_I0 (ev_var (by rfl)) rv_I0
    · cases d <;> simp [isD, isTy, tyN, betw, intOf] <;> rfl
theorem ok_key (T : TxtC K mg a) : FnOk P w K mg base CX0 1 a.HasKey a.fdHasKey ["occasion"] (SpB pKey) := by
  refine T.fHasKey.ok scHasKey (fun vs H Q E h => ?_) (fun cdv A outer s H vs Q E hr h => ?_)
  · obtain ⟨b, ⟨x, rfl, _⟩, _⟩ := h
    rfl
  · obtain ⟨b, ⟨x, rfl, rfl⟩, k⟩ := h
    refine ⟨_, (pss_one (ps_ret (by exact (pe_bm PySem.F.plainAttrs_str PySem.F.slot_str_startswith PySem.F.type_str_startswith mt_startswith (pv 0) (pa_cons (pe_glob (v := .str "key ") rfl T.mgKeyOpening ⟨_, rfl⟩) pa_nil))))), ?_⟩
    exact s_ret (ev_starts (ev_var (by rfl)) ev_c) fun H1 e1 => k H1 e1
theorem ok_phone (T : TxtC K mg a) : FnOk P w K mg base CX0 2 a.HasPhone a.fdHasPhone ["occasion"] (SpB pPhone) := by
  have GHasKey : FnOk P w K mg base CX0 1 a.HasKey a.fdHasKey ["occasion"] (SpB pKey) := ok_key T
  refine T.fHasPhone.ok scHasPhone (fun vs H Q E h => ?_) (fun cdv A outer s H vs Q E hr h => ?_)
  · obtain ⟨b, ⟨x, rfl, _⟩, _⟩ := h
    rfl
  · obtain ⟨b, ⟨x, rfl, rfl⟩, k⟩ := h
    refine ⟨_, (pss_one (ps_ret (by exact (pe_or (pe_cmpR op_eq (pv 0) pe_str (nomark _)) (pe_one (pe_call GHasKey (hr.mono (by decide)) (by rfl) T.gHasKey T.kHasKey T.bHasKey .nil pass0 (pa_cons (pv 0) pa_nil))))))), ?_⟩
    refine s_ret (ev_orV (ev_op (ev_var (by rfl)) ev_c (rv_eq rfl)) fun _ => ?_) fun H1 e1 => k H1 e1
    exact ev_callB (ea_cons (ev_var (by rfl)) ea_nil) fun H1 _ => ⟨x, rfl, rfl⟩
theorem ok_names (T : TxtC K mg a) : FnOk P w K mg base CX0 1 a.NamesOne a.fdNamesOne ["text", "opening", "words"] (SpB (pNames K)) := by
  refine T.fNamesOne.ok scNamesOne (fun vs H Q E h => ?_) (fun cdv A outer s H vs Q E hr h => ?_)
  · obtain ⟨b, ⟨t, o, r, ws, rfl, _⟩, _⟩ := h
    rfl
  · obtain ⟨b, ⟨t, o, r, ws, rfl, hw, ht, ho, rfl⟩, k⟩ := h
    refine ⟨_, (pss_one (ps_ret (by exact (pe_and (pe_bm PySem.F.plainAttrs_str PySem.F.slot_str_startswith PySem.F.type_str_startswith mt_startswith (pv 0) (pa_cons (pv 1) pa_nil)) (pe_one (pe_cmpR (r := rIn K false) op_in_seq (pe_slice sl_str (pv 0) (po_some (pe_callB call_len (by rfl) T.blen (by decide +kernel) (pa_cons (pv 1) pa_nil))) po_none) (pv 2) (by rfl)))))))
, ?_⟩
    refine s_ret (ev_andV (ev_starts (ev_var (by rfl)) (ev_var (by rfl))) fun _ => ?_) fun H1 e1 => k H1 e1
    exact ev_inT (neg := false) (ev_slS (ev_var (by rfl)) (eo_some (ev_lenS (ev_var (by rfl)) ho)) eo_none ht) (ev_var (by rfl)) hw (flatStr _) (flatStrs ws)
theorem ok_occ (T : TxtC K mg a) : FnOk P w K mg base CX0 2 a.IsOccasion a.fdIsOccasion ["text", "keys"] (SpB (pOcc K)) := by
  have GNamesOne : FnOk P w K mg base CX0 1 a.NamesOne a.fdNamesOne ["text", "opening", "words"] (SpB (pNames K)) := ok_names T
  refine T.fIsOccasion.ok scIsOccasion (fun vs H Q E h => ?_) (fun cdv A outer s H vs Q E hr h => ?_)
  · obtain ⟨b, ⟨t, r, ws, rfl, _⟩, _⟩ := h
    rfl
  · obtain ⟨b, ⟨t, r, ws, rfl, hw, ht, rfl⟩, k⟩ := h
    refine ⟨_, (pss_one (ps_ret (by exact (pe_or (pe_cmpR (r := rIn K false) op_in_seq (pv 0) (pe_glob (v := .ref a.rPlainOccasions) rfl T.mgPlainOccasions rfl) (by rfl)) (pe_one (pe_call GNamesOne (hr.mono (by decide)) (by rfl) T.gNamesOne T.kNamesOne T.bNamesOne .nil pass0 (pa_cons (pv 0) (pa_cons (pe_glob (v := .str "key ") rfl T.mgKeyOpening ⟨_, rfl⟩) (pa_cons (pv 1) pa_nil))))))))), ?_⟩
    refine s_ret (ev_orV (ev_inT (neg := false) (ev_var (by rfl)) ev_c (T.wPlainOccasions H) (flatStr _) (flatStrs _)) fun _ => ?_) fun H1 e1 => k H1 e1
    exact ev_callB (ea_cons (ev_var (by rfl)) (ea_cons ev_c (ea_cons (ev_var (by rfl)) ea_nil))) fun H1 e1 => ⟨t, _, r, ws, rfl, ex_t e1 hw, ht, by decide, rfl⟩
theorem cutS_len (z : Str) (lo hi : Option Int) : (cutS z lo hi).length ≤ z.length := by
  unfold cutS
  simp only [Str.length]
  simp
  omega
def spCParts : Sp := fun vs H Q _ => ∃ s, vs = [.str s] ∧ s.length ≤ 100000 ∧ ∀ p b H', Ex H H' → H' p = some (.tup [.str (plainS s), .bl b]) → Q (.ref p) H'
def lineOk (s : Str) (words : List Str) : Bool := inS s wLineConditions || nameOne s "in " words
def pLine (K : PySem.W.Frag) : List V → Hp → Bool → Prop := fun vs H b => ∃ t r ws, vs = [.str t, .ref r] ∧ SqT K H r (ws.map V.str) ∧ t.length ≤ 100000 ∧ b = lineOk t ws
theorem plain_len {t : Str} (ht : t.length ≤ 100000) : (plainS t).length ≤ 100000 := by
  unfold plainS
  split
  · exact Nat.le_trans (cutS_len _ _ _) ht
  · exact ht
theorem ok_cparts (T : TxtC K mg a) : FnOk P w K mg base CX0 1 a.ConditionParts a.fdConditionParts ["text"] spCParts := by
  refine T.fConditionParts.ok scConditionParts (fun vs H Q E h => ?_) (fun cdv A outer s H vs Q E hr h => ?_)
  · obtain ⟨b, rfl, _⟩ := h
    rfl
  · obtain ⟨s, rfl, hz, k⟩ := h
    refine ⟨_, (pss_cons (ps_if (pt_val (pe_bm PySem.F.plainAttrs_str PySem.F.slot_str_startswith PySem.F.type_str_startswith mt_startswith (pv 0) (pa_cons pe_str pa_nil))) (pss_one (ps_ret (by exact (pe_tup (pa_cons (pe_slice sl_str (pv 0) (po_some (pe_callB call_len (by rfl) T.blen (by decide +kernel) (pa_cons pe_str pa_nil))) po_none) (pa_cons pe_bl pa_nil)))))) pss_nil)
      (pss_one (ps_ret (by exact (pe_tup (pa_cons (pv 0) (pa_cons pe_bl pa_nil))))))), ?_⟩
    refine s_when (b := Txt.startswith s "not ") (et_test (ev_starts (ev_var (by rfl)) ev_c)) (fun hb H2 e2 => ?_) fun hb H2 e2 => ?_
    · refine s_retU (xs := [.str (cutS s (some (("not " : Str).length : Int)) none), .bl false]) (eu_tup (ea_cons (ev_slS (ev_var (by rfl)) (eo_some (ev_lenS ev_c (by decide))) eo_none hz) (ea_cons ev_c ea_nil)) (by simp)) fun p H1 hp e1 h1 => k p false H1 (e2.trans e1) ?_
      unfold plainS
      rw [if_pos hb]
      exact h1
    · dsimp only
      refine s_retU (xs := [.str s, .bl true]) (eu_tup (ea_cons (ev_var (by rfl)) (ea_cons ev_c ea_nil)) (by simp)) fun p H1 hp e1 h1 => k p true H1 (e2.trans e1) ?_
      unfold plainS
      rw [if_neg (by rw [hb]; decide)]
      exact h1
theorem ok_line (T : TxtC K mg a) : FnOk P w K mg base CX0 2 a.IsLineCondition a.fdIsLineCondition ["plain", "words"] (SpB (pLine K)) := by
  have GNamesOne : FnOk P w K mg base CX0 1 a.NamesOne a.fdNamesOne ["text", "opening", "words"] (SpB (pNames K)) := ok_names T
  refine T.fIsLineCondition.ok scIsLineCondition (fun vs H Q E h => ?_) (fun cdv A outer s H vs Q E hr h => ?_)
  · obtain ⟨b, ⟨t, r, ws, rfl, _⟩, _⟩ := h
    rfl
  · obtain ⟨b, ⟨t, r, ws, rfl, hw, ht, rfl⟩, k⟩ := h
    refine ⟨_, (pss_one (ps_ret (by exact (pe_or (pe_cmpR (r := rIn K false) op_in_seq (pv 0) (pe_glob (v := .ref a.rLineConditions) rfl T.mgLineConditions rfl) (by rfl)) (pe_one (pe_call GNamesOne (hr.mono (by decide)) (by rfl) T.gNamesOne T.kNamesOne T.bNamesOne .nil pass0 (pa_cons (pv 0) (pa_cons (pe_glob (v := .str "in ") rfl T.mgStandConditionOpening ⟨_, rfl⟩) (pa_cons (pv 1) pa_nil))))))))), ?_⟩
    refine s_ret (ev_orV (ev_inT (neg := false) (ev_var (by rfl)) ev_c (T.wLineConditions H) (flatStr _) (flatStrs _)) fun _ => ?_) fun H1 e1 => k H1 e1
    exact ev_callB (ea_cons (ev_var (by rfl)) (ea_cons ev_c (ea_cons (ev_var (by rfl)) ea_nil))) fun H1 e1 => ⟨t, _, r, ws, rfl, ex_t e1 hw, ht, by decide, rfl⟩
theorem ok_cond (T : TxtC K mg a) : FnOk P w K mg base CX0 3 a.IsCondition a.fdIsCondition ["text", "occasion", "words"] (SpB (pCond K)) := by
  have GConditionParts : FnOk P w K mg base CX0 1 a.ConditionParts a.fdConditionParts ["text"] spCParts := ok_cparts T
  have GIsLineCondition : FnOk P w K mg base CX0 2 a.IsLineCondition a.fdIsLineCondition ["plain", "words"] (SpB (pLine K)) := ok_line T
  have GHasPhone : FnOk P w K mg base CX0 2 a.HasPhone a.fdHasPhone ["occasion"] (SpB pPhone) := ok_phone T
  refine T.fIsCondition.ok scIsCondition (fun vs H Q E h => ?_) (fun cdv A outer s H vs Q E hr h => ?_)
  · obtain ⟨b, ⟨t, o, r, ws, rfl, _⟩, _⟩ := h
    rfl
  · obtain ⟨b, ⟨t, o, r, ws, rfl, hw, ht, rfl⟩, k⟩ := h
    refine ⟨_, (pss_cons (ps_asg (pe_call GConditionParts (hr.mono (by decide)) (by rfl) T.gConditionParts T.kConditionParts T.bConditionParts .nil pass0 (pa_cons (pv 0) pa_nil)) (pg_tup (by rfl) (pgs_cons (pg_name (i := 3) scIsCondition.nd rfl (by first | exact Or.inl rfl | exact Or.inr rfl)) (pgs_cons (pg_name (i := 4) scIsCondition.nd rfl (by first | exact Or.inl rfl | exact Or.inr rfl)) pgs_nil))))
      (pss_cons (ps_if (pt_cmpR (r := rIn K false) op_in_seq (pv 3) (pe_glob (v := .ref a.rPhoneConditions) rfl T.mgPhoneConditions rfl) (by rfl)) (pss_one (ps_ret (by exact (pe_call GHasPhone (hr.mono (by decide)) (by rfl) T.gHasPhone T.kHasPhone T.bHasPhone .nil pass0 (pa_cons (pv 1) pa_nil))))) pss_nil)
      (pss_one (ps_ret (by exact (pe_call GIsLineCondition (hr.mono (by decide)) (by rfl) T.gIsLineCondition T.kIsLineCondition T.bIsLineCondition .nil pass0 (pa_cons (pv 3) (pa_cons (pv 2) pa_nil)))))))), ?_⟩
    have hp := plain_len ht
    refine ⟨_, rfl, t, rfl, ht, fun p c H1 e1 h1 => ?_⟩
    refine ⟨p, _, rfl, st_of h1, rfl, _, _, rfl, _, _, rfl, rfl, ?_⟩
    dsimp only [tNext, tSeq]
    refine s_when (b := inS (plainS t) wPhoneConditions) (et_test (ev_inT (neg := false) (ev_var (by rfl)) ev_c (T.wPhoneConditions H1) (flatStr _) (flatStrs _))) (fun hb H2 e2 => ?_) fun hb H2 e2 => ?_
    · refine s_ret (v := .bl (condOk t o ws)) ?_ fun H3 e3 => k H3 ((e1.trans e2).trans e3)
      unfold condOk
      rw [if_pos hb]
      exact ev_callB (ea_cons (ev_var (by rfl)) ea_nil) fun H1 _ => ⟨o, rfl, rfl⟩
    · dsimp only
      refine s_ret (v := .bl (condOk t o ws)) ?_ fun H3 e3 => k H3 ((e1.trans e2).trans e3)
      unfold condOk
      rw [if_neg (by rw [hb]; decide)]
      exact ev_callB (ea_cons (ev_var (by rfl)) (ea_cons (ev_var (by rfl)) ea_nil)) fun H4 e4 => ⟨_, r, ws, rfl, ex_t ((e1.trans e2).trans e4) hw, hp, rfl⟩
theorem ok_deed (T : TxtC K mg a) : FnOk P w K mg base CX0 3 a.IsDeed a.fdIsDeed ["text", "occasion", "words"] (SpB (pDeed K)) := by
  have GNamesOne : FnOk P w K mg base CX0 1 a.NamesOne a.fdNamesOne ["text", "opening", "words"] (SpB (pNames K)) := ok_names T
  have GHasPhone : FnOk P w K mg base CX0 2 a.HasPhone a.fdHasPhone ["occasion"] (SpB pPhone) := ok_phone T
  have GHasKey : FnOk P w K mg base CX0 1 a.HasKey a.fdHasKey ["occasion"] (SpB pKey) := ok_key T
  refine T.fIsDeed.ok scIsDeed (fun vs H Q E h => ?_) (fun cdv A outer s H vs Q E hr h => ?_)
  · obtain ⟨b, ⟨t, o, r, ws, rfl, _⟩, _⟩ := h
    rfl
  · obtain ⟨b, ⟨t, o, r, ws, rfl, hw, ht, rfl⟩, k⟩ := h
    refine ⟨_, (pss_cons (ps_if (pt_cmpR (r := rIn K false) op_in_seq (pv 0) (pe_glob (v := .ref a.rPhoneDeeds) rfl T.mgPhoneDeeds rfl) (by rfl)) (pss_one (ps_ret (by exact (pe_call GHasPhone (hr.mono (by decide)) (by rfl) T.gHasPhone T.kHasPhone T.bHasPhone .nil pass0 (pa_cons (pv 1) pa_nil))))) pss_nil)
      (pss_cons (ps_if (pt_cmpR (r := rIn K false) op_in_seq (pv 0) (pe_glob (v := .ref a.rKeyDeeds) rfl T.mgKeyDeeds rfl) (by rfl)) (pss_one (ps_ret (by exact (pe_call GHasKey (hr.mono (by decide)) (by rfl) T.gHasKey T.kHasKey T.bHasKey .nil pass0 (pa_cons (pv 1) pa_nil))))) pss_nil)
      (pss_one (ps_ret (by exact (pe_or (pe_cmpR (r := rIn K false) op_in_seq (pv 0) (pe_glob (v := .ref a.rLineDeeds) rfl T.mgLineDeeds rfl) (by rfl)) (pe_one (pe_call GNamesOne (hr.mono (by decide)) (by rfl) T.gNamesOne T.kNamesOne T.bNamesOne .nil pass0 (pa_cons (pv 0) (pa_cons (pe_glob (v := .str "stand ") rfl T.mgStandDeedOpening ⟨_, rfl⟩) (pa_cons (pv 2) pa_nil))))))))))), ?_⟩
    refine s_when (b := inS t wPhoneDeeds) (et_test (ev_inT (neg := false) (ev_var (by rfl)) ev_c (T.wPhoneDeeds H) (flatStr _) (flatStrs _))) (fun hb H2 e2 => ?_) fun hb H2 e2 => ?_
    · refine s_ret (v := .bl (deedOk t o ws)) ?_ fun H3 e3 => k H3 (e2.trans e3)
      unfold deedOk
      rw [if_pos hb]
      exact ev_callB (ea_cons (ev_var (by rfl)) ea_nil) fun H1 _ => ⟨o, rfl, rfl⟩
    · refine s_when (b := inS t wKeyDeeds) (et_test (ev_inT (neg := false) (ev_var (by rfl)) ev_c (T.wKeyDeeds H2) (flatStr _) (flatStrs _))) (fun hc H3 e3 => ?_) fun hc H3 e3 => ?_
      · refine s_ret (v := .bl (deedOk t o ws)) ?_ fun H4 e4 => k H4 ((e2.trans e3).trans e4)
        unfold deedOk
        rw [if_neg (by rw [hb]; decide), if_pos hc]
        exact ev_callB (ea_cons (ev_var (by rfl)) ea_nil) fun H1 _ => ⟨o, rfl, rfl⟩
      · dsimp only
        refine s_ret (v := .bl (deedOk t o ws)) ?_ fun H4 e4 => k H4 ((e2.trans e3).trans e4)
        unfold deedOk
        rw [if_neg (by rw [hb]; decide), if_neg (by rw [hc]; decide)]
        refine ev_orV (ev_inT (neg := false) (ev_var (by rfl)) ev_c (T.wLineDeeds H3) (flatStr _) (flatStrs _)) fun _ => ?_
        exact ev_callB (ea_cons (ev_var (by rfl)) (ea_cons ev_c (ea_cons (ev_var (by rfl)) ea_nil))) fun H4 e4 => ⟨_, _, r, ws, rfl, ex_t ((e2.trans e3).trans e4) hw, ht, by decide, rfl⟩
end
end L2.KC

set_option Elab.async false
set_option maxRecDepth 100000
set_option maxHeartbeats 4000000
set_option linter.all false
/-! Texts cut in parts: how long the parts are; lists of truth values; pure defs that give a tuple, or None or a number. -/
namespace L2.XK
open PySem PySem.Spec PyProof.Rows XC Evl TL
theorem spl_len {S : List Nat} : ∀ (l : List Nat) (k : Nat) (acc p : List Nat), p ∈ spl S k acc l → p.length ≤ acc.length + l.length
  | [], k, acc, p, h => by
    rw [spl_nil] at h
    rw [List.mem_singleton.mp h]
    exact Nat.le_add_right _ _
  | c :: r, 0, acc, p, h => by
    cases hp : pre S (c :: r) with
    | true =>
      rw [spl_hit hp] at h
      rcases List.mem_cons.mp h with rfl | h
      · exact Nat.le_add_right _ _
      · have := spl_len r _ [] p h
        simp at this ⊢
        omega
    | false =>
      rw [spl_miss hp] at h
      have := spl_len r _ _ p h
      simp at this ⊢
      omega
  | c :: r, k + 1, acc, p, h => by
    have := spl_len r k acc p h
    simp
    omega
theorem spl_many {S : List Nat} : ∀ (l : List Nat) (k : Nat) (acc : List Nat), (spl S k acc l).length ≤ l.length + 1
  | [], k, acc => by
    rw [spl_nil]
    exact Nat.le_refl _
  | c :: r, 0, acc => by
    cases hp : pre S (c :: r) with
    | true =>
      rw [spl_hit hp]
      have := spl_many (S := S) r (S.length - 1) []
      simp
      omega
    | false =>
      rw [spl_miss hp]
      have := spl_many (S := S) r 0 (acc ++ [c])
      simp
      omega
  | c :: r, k + 1, acc => by
    have := spl_many (S := S) r k acc
    have e : spl S (k + 1) acc (c :: r) = spl S k acc r := rfl
    rw [e]
    simp
    omega
theorem par_len {S : List Nat} : ∀ (l acc a b : List Nat), par S acc l = some (a, b) → a.length ≤ acc.length + l.length ∧ b.length ≤ l.length
  | [], acc, a, b, h => by cases h
  | c :: r, acc, a, b, h => by
    cases hp : pre S (c :: r) with
    | true =>
      rw [par_hit hp] at h
      cases h
      simp <;> omega
    | false =>
      rw [par_miss hp] at h
      have := par_len r _ a b h
      simp at this ⊢
      omega
/-- a separator of plain signs, not empty -/
structure Sep (y : Str) : Prop where
  ne : tl y ≠ []
  plain : y.cps.all (· < 256) = true
theorem Sep.len {y : Str} (s : Sep y) : (y.length == 0) = false := by
  have h := s.ne
  rw [beq_eq_false_iff_ne, len_tl]
  exact fun z => h (List.length_eq_zero_iff.mp z)
theorem split_len {x y p : Str} (s : Sep y) (h : p ∈ Txt.split x y) : p.length ≤ x.length := by
  have e := split_spl x y s.ne (kind_ok s.plain)
  have h1 : tl p ∈ spl (tl y) 0 [] (tl x) := by
    rw [← e]
    exact List.mem_map_of_mem h
  have := spl_len _ _ _ _ h1
  rw [len_tl, len_tl]
  simpa using this
theorem split_many {x y : Str} (s : Sep y) : (Txt.split x y).length ≤ x.length + 1 := by
  have e := split_spl x y s.ne (kind_ok s.plain)
  have h1 := spl_many (S := tl y) (tl x) 0 []
  rw [← e, List.length_map] at h1
  rw [len_tl]
  exact h1
theorem part_len {x y : Str} (s : Sep y) : (Txt.partition x y).1.length ≤ x.length ∧ (Txt.partition x y).2.1.length ≤ y.length ∧ (Txt.partition x y).2.2.length ≤ x.length := by
  rw [partition_par x y s.ne]
  cases h : par (tl y) [] (tl x) with
  | none => exact ⟨Nat.le_refl _, by show 0 ≤ _; omega, by show 0 ≤ _; omega⟩
  | some q =>
    obtain ⟨a, b⟩ := q
    have := par_len _ _ _ _ h
    rw [len_tl x]
    simp only [Str.length] at this ⊢
    simp at this ⊢
    exact ⟨this.1, this.2⟩
end L2.XK

set_option Elab.async false
set_option maxRecDepth 100000
set_option maxHeartbeats 4000000
set_option linter.all false
/-! Texts cut in parts: how long the parts are; lists of truth values; pure defs that give a tuple, or None or a number. -/
namespace L2.XK
open PySem PySem.Spec PyProof.Rows XC Evl TL
section
variable {K : PySem.W.Frag} {σ : L2.St} {H : Hp} {ta tb tc te : TE}
theorem range_mapD {α β : Type} (l : List α) (d : α) (g : α → β) : (List.range l.length).map (fun i => g (l.getD i d)) = l.map g := by
  apply List.ext_getElem
  · simp
  · intro i h1 h2
    simp at h1
    simp [List.getD, h1]
theorem ev_allS {z : Str} {j : Nat} {vs : List Nat} (f : Nat → Bool) (h : Ev te σ H (.str z)) (hz : z.length ≤ 40000) (hw : ∀ x, wipe ((wipe σ vs).set j (some x)) vs = wipe σ vs)
    (he : ∀ (c : Nat) H1, Ex H H1 → Ev tb ((wipe σ vs).set j (some (.str ⟨#[c]⟩))) H1 (.bl (f c))) :
    Ev (tCB (rAll K) (tCons (tLc (iStr te) (gName j) tYes tb vs) tNil)) σ H (.bl (z.cps.toList.all f)) := by
  refine ev_is (ev_all (bs := z.cps.toList.map f) ?_) (by rw [List.all_map]; rfl)
  have e : (z.cps.toList.map f).map V.bl = (List.range z.cps.size).map fun i => V.bl (f (z.cps.toList.getD i 0)) := by
    rw [List.map_map]
    exact (range_mapD z.cps.toList 0 (V.bl ∘ f)).symm
  rw [e]
  refine el_lcS _ h hz hw fun i c H1 e1 hc => ?_
  have e2 : z.cps.toList.getD i 0 = c := by
    rw [List.getD, Array.getElem?_toList, hc]
    rfl
  rw [e2]
  exact he c H1 e1
/-- all([f(x) for x in list of texts]) -/
theorem ev_allL {p : Addr} {ws : List Str} {j : Nat} {vs : List Nat} (f : Str → Bool) (h : Ev te σ H (.ref p)) (hx : SqL K H p (ws.map V.str)) (hz : ws.length ≤ 40000) (hw : ∀ x, wipe ((wipe σ vs).set j (some x)) vs = wipe σ vs)
    (he : ∀ (c : Str) H1, c ∈ ws → Ex H H1 → Ev tb ((wipe σ vs).set j (some (.str c))) H1 (.bl (f c))) :
    Ev (tCB (rAll K) (tCons (tLc (iList K te) (gName j) tYes tb vs) tNil)) σ H (.bl (ws.all f)) := by
  refine ev_is (ev_all (bs := ws.map f) ?_) (by rw [List.all_map]; rfl)
  have hl : (ws.map V.str).length = ws.length := List.length_map ..
  have e : (ws.map f).map V.bl = given (ws.map V.str).length (fun _ => true) fun i => V.bl (f (ws.getD i default)) := by
    unfold given
    rw [List.filter_eq_self.mpr (fun _ _ => rfl), hl, List.map_map]
    exact (range_mapD ws default (V.bl ∘ f)).symm
  rw [e]
  refine el_lcL (fun _ => true) _ h hx (by rw [hl]; exact hz) hw (fun i x H1 e1 hi => fun H2 e2 Q q => q H2 (Ex.refl _)) fun i x H1 e1 hi _ => ?_
  rw [List.getElem?_map] at hi
  cases hc : ws[i]? with
  | none =>
    rw [hc] at hi
    cases hi
  | some c =>
    rw [hc] at hi
    cases hi
    have e2 : ws.getD i default = c := by
      rw [List.getD, hc]
      rfl
    rw [e2]
    exact he c H1 (List.mem_of_getElem? hc) e1
theorem rv_leS {i j : Str} : RV (fun x y H Q => ∃ i j, x = .str i ∧ y = .str j ∧ Q (.bl (!decide (j.cps.toList < i.cps.toList))) H) (.str i) (.str j) H (.bl (!decide (j.cps.toList < i.cps.toList))) :=
  fun H1 e Q q => ⟨i, j, rfl, rfl, q H1 (Ex.refl _)⟩
/-- a new tuple -/
def SpU (P : List V → Hp → List V → Prop) : Sp := fun vs H Q _ => ∃ xs, P vs H xs ∧ ∀ p H', H p = none → Ex H H' → H' p = some (.tup xs) → Q (.ref p) H'
theorem eu_call {P : List V → Hp → List V → Prop} {vs xs : List V} {E : XK} {tas : TA} (h : EvA tas σ H vs) (hs : ∀ H1, Ex H H1 → P vs H1 xs) : EvU (tCall (SpU P) [] E tas) σ H xs := fun H1 e Q q =>
  h H1 e _ fun H2 e2 => by
    rw [List.append_nil]
    exact ⟨xs, hs H2 (e.trans e2), fun p H3 hp e3 h3 => q p H3 (fresh_back e2 hp) (e2.trans e3) h3⟩
def optV : Option Nat → V
  | some i => .int (i : Int)
  | none => .non
def SpN (P : List V → Hp → Option Nat → Prop) : Sp := fun vs H Q _ => ∃ o, P vs H o ∧ ∀ H', Ex H H' → Q (optV o) H'
theorem ev_callN {P : List V → Hp → Option Nat → Prop} {vs : List V} {E : XK} {tas : TA} {o : Option Nat} (h : EvA tas σ H vs) (hs : ∀ H1, Ex H H1 → P vs H1 o) : Ev (tCall (SpN P) [] E tas) σ H (optV o) := fun H1 e Q q =>
  h H1 e _ fun H2 e2 => by
    rw [List.append_nil]
    exact ⟨o, hs H2 (e.trans e2), fun H3 e3 => q H3 (e2.trans e3)⟩
/-- the first number below n at which it is so -/
def firstOf (n : Nat) (f : Nat → Bool) : Option Nat := (List.range n).find? f
theorem first_none {n : Nat} {f : Nat → Bool} (h : ∀ i, i < n → f i = false) : firstOf n f = none := by
  unfold firstOf
  rw [List.find?_eq_none]
  intro x hx
  rw [h x (List.mem_range.mp hx)]
  decide
theorem first_some {n i : Nat} {f : Nat → Bool} (hi : i < n) (hf : f i = true) (h : ∀ j, j < i → f j = false) : firstOf n f = some i := by
  unfold firstOf
  rw [List.find?_range_eq_some]
  exact ⟨hf, List.mem_range.mpr hi, fun j hj => by rw [h j hj]; rfl⟩
/-- for i, x in enumerate(a tuple) -/
theorem s_forE {D : Ends} {ta : TA} {tu : TS} {g : TG} {a : Addr} {xs : List V} (h : EvA ta σ H [.ref a]) (hx : SqT K H a xs) (Pv : Nat → L2.St → Hp → Prop) (h0 : ∀ H1, Ex H H1 → Pv 0 σ H1) (hl : ∀ i σ' H', i ≤ xs.length → Pv i σ' H' → SqT K H' a xs)
    (hs : ∀ i x T σ' H', xs[i]? = some x → Pv i σ' H' → H' T = none → g (.ref T) σ' (upd H' T (.tup [.int (i : Nat), x])) fun σ2 H2 => tu { D with nx := Pv (i + 1), ct := Pv (i + 1), bk := D.nx } σ2 H2)
    (hd : ∀ σ' H', Pv xs.length σ' H' → D.nx σ' H') : tFor (iEnumT K ta) g tu D σ H :=
  h H (Ex.refl H) _ fun H1 e => ⟨a, xs, rfl, ex_t e hx, by
    refine ⟨fun i m σ' H' => m = xs.length - i ∧ i ≤ xs.length ∧ Pv i σ' H', ⟨xs.length, by simp, Nat.zero_le _, h0 H1 e⟩, ?_⟩
    rintro i m σ' H' ⟨rfl, hi, p⟩
    have q := hl i σ' H' hi p
    by_cases hlt : i < xs.length
    · refine .inr ⟨⟨xs, xs[i], q, List.getElem?_eq_getElem hlt⟩, Pv (i + 1), fun σ2 H2 p' => ⟨xs.length - (i + 1), by omega, rfl, hlt, p'⟩, fun x H2 y => ?_⟩
      obtain ⟨T, z, rfl, hT, rfl, hz⟩ := y
      exact hs i z T σ' H' (hz xs q) p hT
    · have e1 : i = xs.length := by omega
      subst e1
      exact .inl ⟨⟨xs, q, Nat.le_refl _⟩, hd σ' H' p⟩⟩
end
end L2.XK

set_option Elab.async false
set_option maxRecDepth 100000
set_option maxHeartbeats 4000000
set_option linter.all false
/-! The checks of words, stands and keys. -/
namespace L2.KC
open PySem PySem.Spec PyProof.Rows XK Evl
def letterC (c : Nat) : Bool := (!decide ([c] < [97])) && (!decide ([122] < [c]))
theorem letterC_eq (c : Nat) : letterC c = (decide (97 ≤ c) && decide (c ≤ 122)) := by
  unfold letterC
  congr 1
  · by_cases h : 97 ≤ c
    · have h' : ¬ [c] < [97] := by
        rw [List.cons_lt_cons_iff]
        simp
        omega
      simp [h, h']
    · have h' : [c] < [97] := by
        rw [List.cons_lt_cons_iff]
        simp
        omega
      simp [h, h']
  · by_cases h : c ≤ 122
    · have h' : ¬ [122] < [c] := by
        rw [List.cons_lt_cons_iff]
        simp
        omega
      simp [h, h']
    · have h' : [122] < [c] := by
        rw [List.cons_lt_cons_iff]
        simp
        omega
      simp [h, h']
def lenB (s : Str) : Bool := decide (1 ≤ (s.length : Int)) && decide ((s.length : Int) ≤ 8)
def wordS (s : Str) : Bool := lenB s && (s.cps.toList.all letterC && !inS s wPartingWords)
def wordD : PyData → Bool
  | .str s => wordS s
  | _ => false
def lenD : PyData → Bool
  | .str s => lenB s
  | _ => false
def heardD : PyData → Bool
  | .str s => inS s wHeardWords
  | _ => false
def standD : PyData → Bool
  | .tuple [x, y] => wordD x && (wordD y && !heardD y)
  | _ => false
theorem wordD_str {d : PyData} (h : wordD d = true) : ∃ s, d = .str s ∧ wordS s = true := by
  cases d <;> first | exact ⟨_, rfl, h⟩ | (simp [wordD] at h)
theorem standD_is {d : PyData} (h : standD d = true) : ∃ s u, d = .tuple [.str s, .str u] := by
  unfold standD at h
  split at h
  · rename_i x y
    simp only [Bool.and_eq_true] at h
    obtain ⟨s, rfl, _⟩ := wordD_str h.1
    obtain ⟨u, rfl, _⟩ := wordD_str h.2.1
    exact ⟨s, u, rfl⟩
  · cases h
def tupLen : PyData → Nat
  | .tuple ds => ds.length
  | _ => 0
def mkP (p : Str × Str) : PyData := .tuple [.str p.1, .str p.2]
def wordOf : PyData → Str
  | .tuple (.str s :: _) => s
  | _ => default
def strOf : PyData → Str
  | .str s => s
  | _ => default
def badKey (ds : List PyData) (i : Nat) : Bool := !wordD (ds.getD i .none) || inS (strOf (ds.getD i .none)) ((ds.take i).map strOf)
def wrongKey (ds : List PyData) : Option Nat := firstOf ds.length (badKey ds)
def badStand (ds : List PyData) (i : Nat) : Bool := !standD (ds.getD i .none) || inS (wordOf (ds.getD i .none)) ((ds.take i).map wordOf)
def wrongStand (ds : List PyData) : Option Nat := firstOf ds.length (badStand ds)
def pWord (K : PySem.W.Frag) : List V → Hp → Bool → Prop := fun vs H b => ∃ x d, vs = [x] ∧ Da K H x d ∧ b = wordD d
def pStand (K : PySem.W.Frag) : List V → Hp → Bool → Prop := fun vs H b => ∃ x d, vs = [x] ∧ Da K H x d ∧ b = standD d
def pWords (K : PySem.W.Frag) : List V → Hp → List V → Prop := fun vs H xs => ∃ r ys ds, vs = [.ref r] ∧ SqT K H r ys ∧ DaAll K H ys ds ∧ ds.length ≤ 40000 ∧ (∀ d ∈ ds, standD d = true) ∧ xs = ds.map fun d => V.str (wordOf d)
def pWrongKey (K : PySem.W.Frag) : List V → Hp → Option Nat → Prop := fun vs H o => ∃ r ys ds, vs = [.ref r] ∧ SqT K H r ys ∧ DaAll K H ys ds ∧ ds.length ≤ 40000 ∧ o = wrongKey ds
def pWrongStand (K : PySem.W.Frag) : List V → Hp → Option Nat → Prop := fun vs H o => ∃ r ys ds, vs = [.ref r] ∧ SqT K H r ys ∧ DaAll K H ys ds ∧ ds.length ≤ 40000 ∧ o = wrongStand ds
section
variable {P : Program} {w : World} {K : PySem.W.Frag} {mg : Str → Option Value} {base : Heap} {a : AdrC}
theorem ok_word (T : TxtC K mg a) : FnOk P w K mg base CX0 1 a.IsWord a.fdIsWord ["thing"] (SpB (pWord K)) := by
  refine T.fIsWord.ok scIsWord (fun vs H Q E h => ?_) (fun cdv A outer s H vs Q E hr h => ?_)
  · obtain ⟨b, ⟨x, d, rfl, _⟩, _⟩ := h
    rfl
  · obtain ⟨b, ⟨x, d, rfl, hd, rfl⟩, k⟩ := h
    refine ⟨_, (pss_cons (ps_if (PW.pt (pw_or (pt_not (pt_val (pe_callB (id := "isinstance") (r := rIsi K) call_isi (by rfl) T.bisinstance (by decide +kernel) (pa_cons (pv 0) (pa_cons (pe_bltn (v := .ty "str") (by rfl) T.bstr (by decide +kernel) rfl) pa_nil))))) (pw_or1 (pt_not (pt_chain op_le op_le pe_int (pe_callB call_len (by rfl) T.blen (by decide +kernel) (pa_cons (pv 0) pa_nil)) (pe_glob (v := .int 8) rfl T.mgLongestWord ⟨_, rfl⟩)))))) (pss_one (ps_ret (by exact pe_bl))) pss_nil)
      (pss_one (ps_ret (by exact (pe_and (pe_callB (cr_all rfl) (by rfl) T.ball (by decide +kernel) (pa_cons (pe_lc (own := [("sign", 1)]) (g := gName 1) (tt := tYes) rfl scIsWord.nd (pi_str (pv 0)) (blkOk_by (own := [("sign", 1)]) (N := NIsWord) (sc := defScope sIsWord) (by decide +kernel)) (fun _ _ _ _ _ => pg_name (i := 1) scIsWord.nd rfl (Or.inl rfl)) (fun _ _ _ _ _ => by exact pts_nil) (fun _ _ _ _ _ => by exact (pe_chain op_le_str op_le_str pe_str (pv 1) pe_str))) pa_nil)) (pe_one (pe_cmpR (r := rIn K true) op_notIn_seq (pv 0) (pe_glob (v := .ref a.rPartingWords) rfl T.mgPartingWords rfl) (by rfl)))))))), ?_⟩
    have v0 : ∀ H', Ev (tVar 0) (start NIsWord [x]) H' x := fun H' => ev_var rfl
    refine s_when (b := !isD "str" d || !lenD d) (et_or (et_not (et_test (ev_isi (by decide) (v0 _) hd))) fun h1 => ?_) (fun hb H1 e1 => ?_) fun hb H1 e1 => ?_
    · have h1' : isD "str" d = true := by simpa using h1
      obtain ⟨z, rfl⟩ := isD_str h1'
      cases hd with
      | str _ hz => exact et_not (et_test (ev_chain ev_c (ev_lenS (v0 _) hz) rv_I0 ev_c rv_I0))
    · refine s_ret (v := .bl (wordD d)) (ev_is ev_c ?_) fun H2 e2 => k H2 (e1.trans e2)
      cases d <;> first | rfl | skip
      rename_i z
      have q : lenB z = false := by simpa [isD, isTy, tyN, lenD] using hb
      simp [wordD, wordS, q]
    · simp only [Bool.or_eq_false_iff, Bool.not_eq_false'] at hb
      obtain ⟨z, rfl⟩ := isD_str hb.1
      cases hd with
      | str _ hz =>
        have q : lenB z = true := hb.2
        have hl : z.length ≤ 40000 := by
          unfold lenB at q
          simp at q
          omega
        dsimp only
        refine s_ret (v := .bl (wordD (.str z))) ?_ fun H2 e2 => k H2 (e1.trans e2)
        show Ev _ _ _ (.bl (wordS z))
        unfold wordS
        rw [q, Bool.true_and]
        refine ev_andV (ev_allS letterC (ev_var (by rfl)) hl (fun _ => rfl) fun c H3 e3 => ?_) fun _ => ?_
        · exact ev_chain ev_c (ev_var (by rfl)) rv_leS ev_c rv_leS
        · exact ev_inT (neg := true) (ev_var (by rfl)) ev_c (T.wPartingWords H1) (flatStr _) (flatStrs _)
theorem ok_stand (T : TxtC K mg a) : FnOk P w K mg base CX0 2 a.IsStand a.fdIsStand ["thing"] (SpB (pStand K)) := by
  have GIsWord : FnOk P w K mg base CX0 1 a.IsWord a.fdIsWord ["thing"] (SpB (pWord K)) := ok_word T
  refine T.fIsStand.ok scIsStand (fun vs H Q E h => ?_) (fun cdv A outer s H vs Q E hr h => ?_)
  · obtain ⟨b, ⟨x, d, rfl, _⟩, _⟩ := h
    rfl
  · obtain ⟨b, ⟨x, d, rfl, hd, rfl⟩, k⟩ := h
    refine ⟨_, (pss_cons (ps_if (PW.pt (pw_or (pt_not (pt_val (pe_callB (id := "isinstance") (r := rIsi K) call_isi (by rfl) T.bisinstance (by decide +kernel) (pa_cons (pv 0) (pa_cons (pe_bltn (v := .ty "tuple") (by rfl) T.btuple (by decide +kernel) rfl) pa_nil))))) (pw_or1 (pt_cmpR op_ne (pe_callB call_len (by rfl) T.blen (by decide +kernel) (pa_cons (pv 0) pa_nil)) pe_int (nomark _))))) (pss_one (ps_ret (by exact pe_bl))) pss_nil)
      (pss_one (ps_ret (by exact (pe_and (pe_call GIsWord (hr.mono (by decide)) (by rfl) T.gIsWord T.kIsWord T.bIsWord .nil pass0 (pa_cons (pe_ix (r := rIxT K) ix_tup (pv 0) pe_int (fun _ _ => rfl)) pa_nil)) (pe_and (pe_call GIsWord (hr.mono (by decide)) (by rfl) T.gIsWord T.kIsWord T.bIsWord .nil pass0 (pa_cons (pe_ix (r := rIxT K) ix_tup (pv 0) pe_int (fun _ _ => rfl)) pa_nil)) (pe_one (pe_cmpR (r := rIn K true) op_notIn_seq (pe_ix (r := rIxT K) ix_tup (pv 0) pe_int (fun _ _ => rfl)) (pe_glob (v := .ref a.rHeardWords) rfl T.mgHeardWords rfl) (by rfl))))))))), ?_⟩
    have v0 : ∀ H', Ev (tVar 0) (start NIsStand [x]) H' x := fun H' => ev_var rfl
    refine s_when (b := !isD "tuple" d || !decide (V.int ((tupLen d : Nat) : Int) = V.int 2)) (et_or (et_not (et_test (ev_isi (by decide) (v0 _) hd))) fun h1 => ?_) (fun hb H1 e1 => ?_) fun hb H1 e1 => ?_
    · have h1' : isD "tuple" d = true := by simpa using h1
      obtain ⟨ds, rfl⟩ := isD_tup h1'
      cases hd with
      | tup hq hx =>
        refine et_test (ev_op (ev_lenT (v0 _) hq) ev_c ?_)
        rw [hx.len]
        exact rv_ne rfl
    · refine s_ret (v := .bl (standD d)) (ev_is ev_c ?_) fun H2 e2 => k H2 (e1.trans e2)
      cases d <;> first | rfl | skip
      rename_i ds
      clear hd k
      match ds, hb with
      | [], _ => rfl
      | [_], _ => rfl
      | [_, _], hb => simp [isD, isTy, tyN, tupLen] at hb
      | _ :: _ :: _ :: _, _ => rfl
    · simp only [Bool.or_eq_false_iff, Bool.not_eq_false'] at hb
      obtain ⟨ds, rfl⟩ := isD_tup hb.1
      have hl : ds.length = 2 := by
        have := of_decide_eq_true hb.2
        injection this with this
        have e : tupLen (.tuple ds) = ds.length := rfl
        omega
      obtain ⟨dx, dy, rfl⟩ : ∃ dx dy, ds = [dx, dy] := by
        match ds, hl with
        | [dx, dy], _ => exact ⟨dx, dy, rfl⟩
      cases hd with
      | tup hq hx =>
        cases hx with
        | @cons vx _ _ _ p1 t =>
        cases t with
        | @cons vy _ _ _ p2 t =>
        cases t
        dsimp only
        refine s_ret (v := .bl (standD (.tuple [dx, dy]))) ?_ fun H2 e2 => k H2 (e1.trans e2)
        refine ev_andV (ev_callB (ea_cons (ev_op (ev_var (by rfl)) ev_c (rv_ixT (ex_t e1 hq) (by rfl))) ea_nil) fun H3 e3 => ⟨vx, dx, rfl, p1.ex (e1.trans e3), rfl⟩) fun _ => ?_
        refine ev_andV (ev_callB (ea_cons (ev_op (ev_var (by rfl)) ev_c (rv_ixT (ex_t e1 hq) (by rfl))) ea_nil) fun H3 e3 => ⟨vy, dy, rfl, p2.ex (e1.trans e3), rfl⟩) fun hw => ?_
        obtain ⟨u, rfl, _⟩ := wordD_str hw
        cases p2 with
        | str _ hz => exact ev_inT (neg := true) (ev_op (ev_var (by rfl)) ev_c (rv_ixT (ex_t e1 hq) (by rfl))) ev_c (T.wHeardWords H1) (flatStr _) (flatStrs _)
theorem ok_words (T : TxtC K mg a) : FnOk P w K mg base CX0 1 a.StandWords a.fdStandWords ["stands"] (SpU (pWords K)) := by
  refine T.fStandWords.ok scStandWords (fun vs H Q E h => ?_) (fun cdv A outer s H vs Q E hr h => ?_)
  · obtain ⟨b, ⟨r, ys, ds, rfl, _⟩, _⟩ := h
    rfl
  · obtain ⟨b, ⟨r, ys, ds, rfl, hq, hx, hl, hs, rfl⟩, k⟩ := h
    refine ⟨_, (pss_one (ps_ret (by exact (pe_callTy call_tuple_of (by rfl) T.btuple (by decide +kernel) (pa_cons (pe_lc (own := [("pair", 1)]) (g := gName 1) (tt := tYes) rfl scStandWords.nd (pi_tup (pv 0)) (blkOk_by (own := [("pair", 1)]) (N := NStandWords) (sc := defScope sStandWords) (by decide +kernel)) (fun _ _ _ _ _ => pg_name (i := 1) scStandWords.nd rfl (Or.inl rfl)) (fun _ _ _ _ _ => by exact pts_nil) (fun _ _ _ _ _ => by exact (pe_ix (r := rIxT K) ix_tup (pv 1) pe_int (fun _ _ => rfl)))) pa_nil))))), ?_⟩
    refine s_retU (xs := ds.map fun d => V.str (wordOf d)) ?_ fun p H1 hp e1 h1 => k p H1 hp e1 h1
    refine eu_tupL ?_
    have e : (ds.map fun d => V.str (wordOf d)) = (List.range ys.length).map fun i => V.str (wordOf (ds.getD i .none)) := by
      rw [hx.len]
      exact (range_mapD ds .none fun d => V.str (wordOf d)).symm
    rw [e]
    refine el_lcT _ (ev_var (by rfl)) hq (by rw [hx.len]; exact hl) (fun _ => rfl) fun i x H1 e1 hi => ?_
    obtain ⟨d, hd, p⟩ := hx.get hi
    obtain ⟨s, u, rfl⟩ := standD_is (hs d (List.mem_of_getElem? hd))
    have e2 : ds.getD i .none = .tuple [.str s, .str u] := by
      rw [List.getD, hd]
      rfl
    rw [e2]
    cases p with
    | tup hq2 hx2 =>
      cases hx2 with
      | cons a1 b1 =>
        cases a1
        cases b1 with
        | cons a2 b2 =>
          cases b2
          exact ev_op (ev_var (by rfl)) ev_c (rv_ixT (ex_t e1 hq2) (by rfl))
end
end L2.KC

set_option Elab.async false
set_option maxRecDepth 100000
set_option maxHeartbeats 4000000
set_option linter.all false
/-! The first wrong key, stand, row; the parts of a row. -/
namespace L2.XK
open PySem PySem.Spec PyProof.Rows XC Evl
section
variable {K : PySem.W.Frag} {σ : L2.St} {H : Hp} {ta tb tc te : TE}
theorem DaAll.take {K : PySem.W.Frag} {H : Hp} : ∀ {vs : List V} {ds : List PyData} (n : Nat), DaAll K H vs ds → DaAll K H (vs.take n) (ds.take n)
  | _, _, 0, _ => .nil
  | _, _, n + 1, .nil => .nil
  | _, _, n + 1, .cons p q => .cons p (DaAll.take n q)
theorem cut_take (xs : List V) (i : Nat) (hi : i ≤ xs.length) : cutV xs none (some (i : Int)) = xs.take i := by
  unfold cutV
  have e0 : HT.sIx xs.length 0 none = 0 := rfl
  have e1 : HT.sIx xs.length xs.length (some (i : Int)) = i := by
    unfold HT.sIx
    simp
    split <;> omega
  rw [e0, e1, List.drop_zero, Nat.sub_zero]
/-- t[:i], not the whole -/
theorem eu_take {tl : TO} {p : Addr} {xs : List V} {i : Nat} (h : Ev te σ H (.ref p)) (h1 : EvO tl σ H none) (h2 : Ev tb σ H (.int (i : Int))) (hx : SqT K H p xs) (hi : i < xs.length) :
    EvU (tSl (rSlT K) te tl (tPart tb)) σ H (xs.take i) := fun H1 e Q q =>
  h H1 e _ fun H2 e2 => h1 H2 (e.trans e2) _ fun H3 e3 => h2 H3 ((e.trans e2).trans e3) _ fun H4 e4 => ⟨(i : Int), rfl, p, xs, rfl, ex_t (((e.trans e2).trans e3).trans e4) hx, by
    have e1 : HT.sIx xs.length xs.length (some (i : Int)) = i := by
      unfold HT.sIx
      simp
      split <;> omega
    rw [e1]
    omega, fun r hr => by
    rw [cut_take xs i (Nat.le_of_lt hi)]
    exact q r _ (fresh_back ((e2.trans e3).trans e4) hr) (((e2.trans e3).trans e4).trans (Ex.new hr)) upd_same⟩
end
end L2.XK
namespace L2.KC
open PySem PySem.Spec PyProof.Rows XK Evl
section
variable {P : Program} {w : World} {K : PySem.W.Frag} {mg : Str → Option Value} {base : Heap} {a : AdrC}
theorem take_strs {H : Hp} : ∀ {vs : List V} {ds : List PyData}, DaAll K H vs ds → (∀ d ∈ ds, wordD d = true) → vs = (ds.map strOf).map V.str
  | _, _, .nil, _ => rfl
  | _, _, .cons p q, h => by
    obtain ⟨s, rfl, _⟩ := wordD_str (h _ List.mem_cons_self)
    cases p
    rw [List.map_cons, List.map_cons, ← take_strs q fun d hd => h d (List.mem_cons_of_mem _ hd)]
    rfl
theorem take_ok {ds : List PyData} {f : PyData → Bool} {bad : Nat → Bool} {i : Nat} (hb : ∀ j, bad j = false → f (ds.getD j .none) = true) (h : ∀ j, j < i → bad j = false) : ∀ d ∈ ds.take i, f d = true := by
  intro d hd
  obtain ⟨j, hj, e⟩ := List.mem_iff_getElem.mp hd
  have hj' : j < i ∧ j < ds.length := by
    rw [List.length_take] at hj
    omega
  have := hb j (h j hj'.1)
  rw [List.getElem_take] at e
  rw [List.getD, List.getElem?_eq_getElem hj'.2] at this
  rw [← e]
  exact this
theorem ok_wrongKey (T : TxtC K mg a) : FnOk P w K mg base CX0 2 a.WrongKey a.fdWrongKey ["keys"] (SpN (pWrongKey K)) := by
  have GIsWord : FnOk P w K mg base CX0 1 a.IsWord a.fdIsWord ["thing"] (SpB (pWord K)) := ok_word T
  refine T.fWrongKey.ok scWrongKey (fun vs H Q E h => ?_) (fun cdv A outer s H vs Q E hr h => ?_)
  · obtain ⟨b, ⟨r, ys, ds, rfl, _⟩, _⟩ := h
    rfl
  · obtain ⟨b, ⟨r, ys, ds, rfl, hq, hx, hl, rfl⟩, k⟩ := h
    refine ⟨_, (pss_cons (ps_for PassesOwn.never rfl (XK.pi_enumT (by rfl) T.benumerate (pa_cons (pv 0) pa_nil)) (pg_tup (by rfl) (pgs_cons (pg_name (i := 1) scWrongKey.nd rfl (by first | exact Or.inl rfl | exact Or.inr rfl)) (pgs_cons (pg_name (i := 2) scWrongKey.nd rfl (by first | exact Or.inl rfl | exact Or.inr rfl)) pgs_nil))) (pss_one (ps_if (PW.pt (pw_or (pt_not (pt_val (pe_call GIsWord (hr.mono (by decide)) (by rfl) T.gIsWord T.kIsWord T.bIsWord .nil pass0 (pa_cons (pv 2) pa_nil)))) (pw_or1 (pt_cmpR (r := rIn K false) op_in_seq (pv 2) (pe_slice sl_tup (pv 0) po_none (po_some (pv 1))) (by rfl))))) (pss_one (ps_ret (by exact (pv 1)))) pss_nil)))
      (pss_one (ps_ret (by exact pe_non)))), ?_⟩
    refine s_forE (xs := ys) (ea_cons (ev_var (by rfl)) ea_nil) hq (fun i σ H' => ∃ u v, σ = [some (.ref r), u, v] ∧ Ex H H' ∧ ∀ j, j < i → badKey ds j = false) ?_ ?_ ?_ ?_
    · exact fun H1 e1 => ⟨_, _, rfl, e1, fun j hj => absurd hj (Nat.not_lt_zero _)⟩
    · rintro i σ' H' hi ⟨u, v, rfl, e1, _⟩
      exact ex_t e1 hq
    · rintro i x Tt σ' H' hi ⟨u, v, rfl, e1, hb⟩ hT
      refine ⟨Tt, [.int (i : Nat), x], rfl, st_of upd_same, rfl, _, _, rfl, ?_⟩
      refine ⟨_, _, rfl, ?_⟩
      refine ⟨rfl, ?_⟩
      obtain ⟨d, hd, p⟩ := hx.get hi
      have e2 : Ex H (upd H' Tt (.tup [.int (i : Nat), x])) := e1.trans (Ex.new hT)
      have eg : ds.getD i .none = d := by
        rw [List.getD, hd]
        rfl
      have il : i < ys.length := (List.getElem?_eq_some_iff.mp hi).1
      have tk : ∀ d ∈ ds.take i, wordD d = true := take_ok (bad := badKey ds) (fun j hj => by
        unfold badKey at hj
        simp only [Bool.or_eq_false_iff, Bool.not_eq_false'] at hj
        exact hj.1) hb
      refine s_when (b := badKey ds i) (et_is (et_or (b := inS (strOf d) ((ds.take i).map strOf)) (et_not (et_test (ev_callB (b := wordD d) (ea_cons (ev_var (by rfl)) ea_nil) fun H3 e3 => ⟨x, d, rfl, p.ex (e2.trans e3), rfl⟩))) fun hw => ?_) ?_) (fun hc H3 e3 => ?_) fun hc H3 e3 => ?_
      · have hw' : wordD d = true := by simpa using hw
        obtain ⟨z, rfl, _⟩ := wordD_str hw'
        cases p with
        | str _ hz =>
          refine et_test (ev_inU (xs := ((ds.take i).map strOf).map V.str) (ev_var (by rfl)) ?_ (flatStr _) (flatStrs _))
          rw [← take_strs (hx.take i) tk]
          exact eu_take (ev_var (by rfl)) eo_none (ev_var (by rfl)) (ex_t e2 hq) il
      · unfold badKey
        rw [eg]
      · refine s_ret (v := .int (i : Int)) (ev_var (by rfl)) fun H4 e4 => ?_
        have := k H4 ((e2.trans e3).trans e4)
        rw [show wrongKey ds = some i from first_some (by rw [← hx.len]; exact il) hc hb] at this
        exact this
      · refine ⟨_, _, rfl, e2.trans e3, fun j hj => ?_⟩
        rcases Nat.lt_succ_iff_lt_or_eq.mp hj with h | rfl
        · exact hb j h
        · exact hc
    · rintro σ' H' ⟨u, v, rfl, e1, hb⟩
      dsimp only
      refine s_ret (v := .non) ev_c fun H4 e4 => ?_
      have := k H4 (e1.trans e4)
      rw [show wrongKey ds = none from first_none (by rw [← hx.len]; exact hb)] at this
      exact this
theorem ok_wrongStand (T : TxtC K mg a) : FnOk P w K mg base CX0 3 a.WrongStand a.fdWrongStand ["stands"] (SpN (pWrongStand K)) := by
  have GIsStand : FnOk P w K mg base CX0 2 a.IsStand a.fdIsStand ["thing"] (SpB (pStand K)) := ok_stand T
  have GStandWords : FnOk P w K mg base CX0 1 a.StandWords a.fdStandWords ["stands"] (SpU (pWords K)) := ok_words T
  refine T.fWrongStand.ok scWrongStand (fun vs H Q E h => ?_) (fun cdv A outer s H vs Q E hr h => ?_)
  · obtain ⟨b, ⟨r, ys, ds, rfl, _⟩, _⟩ := h
    rfl
  · obtain ⟨b, ⟨r, ys, ds, rfl, hq, hx, hl, rfl⟩, k⟩ := h
    refine ⟨_, (pss_cons (ps_for PassesOwn.never rfl (XK.pi_enumT (by rfl) T.benumerate (pa_cons (pv 0) pa_nil)) (pg_tup (by rfl) (pgs_cons (pg_name (i := 1) scWrongStand.nd rfl (by first | exact Or.inl rfl | exact Or.inr rfl)) (pgs_cons (pg_name (i := 2) scWrongStand.nd rfl (by first | exact Or.inl rfl | exact Or.inr rfl)) pgs_nil))) (pss_one (ps_if (PW.pt (pw_or (pt_not (pt_val (pe_call GIsStand (hr.mono (by decide)) (by rfl) T.gIsStand T.kIsStand T.bIsStand .nil pass0 (pa_cons (pv 2) pa_nil)))) (pw_or1 (pt_cmpR (r := rIn K false) op_in_seq (pe_ix (r := rIxT K) ix_tup (pv 2) pe_int (fun _ _ => rfl)) (pe_call GStandWords (hr.mono (by decide)) (by rfl) T.gStandWords T.kStandWords T.bStandWords .nil pass0 (pa_cons (pe_slice sl_tup (pv 0) po_none (po_some (pv 1))) pa_nil)) (by rfl))))) (pss_one (ps_ret (by exact (pv 1)))) pss_nil)))
      (pss_one (ps_ret (by exact pe_non)))), ?_⟩
    refine s_forE (xs := ys) (ea_cons (ev_var (by rfl)) ea_nil) hq (fun i σ H' => ∃ u v, σ = [some (.ref r), u, v] ∧ Ex H H' ∧ ∀ j, j < i → badStand ds j = false) ?_ ?_ ?_ ?_
    · exact fun H1 e1 => ⟨_, _, rfl, e1, fun j hj => absurd hj (Nat.not_lt_zero _)⟩
    · rintro i σ' H' hi ⟨u, v, rfl, e1, _⟩
      exact ex_t e1 hq
    · rintro i x Tt σ' H' hi ⟨u, v, rfl, e1, hb⟩ hT
      refine ⟨Tt, [.int (i : Nat), x], rfl, st_of upd_same, rfl, _, _, rfl, ?_⟩
      refine ⟨_, _, rfl, ?_⟩
      refine ⟨rfl, ?_⟩
      obtain ⟨d, hd, p⟩ := hx.get hi
      have e2 : Ex H (upd H' Tt (.tup [.int (i : Nat), x])) := e1.trans (Ex.new hT)
      have eg : ds.getD i .none = d := by
        rw [List.getD, hd]
        rfl
      have il : i < ys.length := (List.getElem?_eq_some_iff.mp hi).1
      have tk : ∀ d ∈ ds.take i, standD d = true := take_ok (bad := badStand ds) (fun j hj => by
        unfold badStand at hj
        simp only [Bool.or_eq_false_iff, Bool.not_eq_false'] at hj
        exact hj.1) hb
      refine s_when (b := badStand ds i) (et_is (et_or (b := inS (wordOf d) ((ds.take i).map wordOf)) (et_not (et_test (ev_callB (b := standD d) (ea_cons (ev_var (by rfl)) ea_nil) fun H3 e3 => ⟨x, d, rfl, p.ex (e2.trans e3), rfl⟩))) fun hw => ?_) ?_) (fun hc H3 e3 => ?_) fun hc H3 e3 => ?_
      · have hw' : standD d = true := by simpa using hw
        obtain ⟨z, z2, rfl⟩ := standD_is hw'
        cases p with
        | tup hq2 hx2 =>
          cases hx2 with
          | cons a1 b1 =>
            cases a1
            cases b1 with
            | cons a2 b2 =>
              cases b2
              refine et_test (ev_inU (xs := ((ds.take i).map wordOf).map V.str) (ev_op (ev_var (by rfl)) ev_c (rv_ixT (ex_t e2 hq2) (by rfl))) ?_ (flatStr _) (flatStrs _))
              rw [List.map_map]
              intro H5 e5 Q5 q5
              refine eu_take (ev_var (by rfl)) eo_none (ev_var (by rfl)) (ex_t e2 hq) il H5 e5 _ fun r2 H6 hr2 e6 h6 => ?_
              exact ⟨(ds.take i).map fun d => V.str (wordOf d), ⟨r2, ys.take i, ds.take i, rfl, st_of h6, (hx.take i).ex ((e2.trans e5).trans e6), by rw [List.length_take]; omega, tk, rfl⟩,
                    fun p7 H7 hp7 e7 h7 => q5 p7 H7 (fresh_back e6 hp7) (e6.trans e7) h7⟩
      · unfold badStand
        rw [eg]
      · refine s_ret (v := .int (i : Int)) (ev_var (by rfl)) fun H4 e4 => ?_
        have := k H4 ((e2.trans e3).trans e4)
        rw [show wrongStand ds = some i from first_some (by rw [← hx.len]; exact il) hc hb] at this
        exact this
      · refine ⟨_, _, rfl, e2.trans e3, fun j hj => ?_⟩
        rcases Nat.lt_succ_iff_lt_or_eq.mp hj with h | rfl
        · exact hb j h
        · exact hc
    · rintro σ' H' ⟨u, v, rfl, e1, hb⟩
      dsimp only
      refine s_ret (v := .non) ev_c fun H4 e4 => ?_
      have := k H4 (e1.trans e4)
      rw [show wrongStand ds = none from first_none (by rw [← hx.len]; exact hb)] at this
      exact this
end
end L2.KC

set_option Elab.async false
set_option maxRecDepth 100000
set_option maxHeartbeats 4000000
set_option linter.all false
/-! The parts of a row, a row, the first wrong row. -/
namespace L2.XK
open PySem PySem.Spec PyProof.Rows XC Evl
section
variable {K : PySem.W.Frag} {σ : L2.St} {H : Hp} {ta tb tc te : TE} {t : TT}
theorem el_if {b : Bool} {xs : List V} (h : EvT t σ H b) (h1 : b = true → EvL ta σ H xs) (h2 : b = false → EvL tb σ H xs) : EvL (tIf t ta tb) σ H xs := fun H1 e Q q => h H1 e _ fun H2 e2 => by
  cases b with
  | true => exact h1 rfl H2 (e.trans e2) Q fun p H3 hp e3 h3 => q p H3 (fresh_back e2 hp) (e2.trans e3) h3
  | false => exact h2 rfl H2 (e.trans e2) Q fun p H3 hp e3 h3 => q p H3 (fresh_back e2 hp) (e2.trans e3) h3
theorem el_split {x y : Str} (ha : Ev ta σ H (.str x)) (hb : Ev tb σ H (.str y)) (s : Sep y) (hz : x.length ≤ 100000) :
    EvL (tBM K "str" (fun x xs H Q => ∃ a b, x = .str a ∧ xs = [.str b] ∧ (b.length == 0) = false ∧ a.length + 2 ≤ sizeLine ∧ rNewStrs (Txt.split a b) H Q) ta (tCons tb tNil)) σ H ((Txt.split x y).map V.str) := fun H1 e Q q =>
  ha H1 e _ fun H2 e2 => ⟨rfl, hb H2 (e.trans e2) _ fun H3 e3 => ⟨x, y, rfl, rfl, s.len, Nat.le_trans (Nat.add_le_add_right hz 2) (by decide), fun p hp => q p _ (fresh_back (e2.trans e3) hp) ((e2.trans e3).trans (Ex.new hp)) upd_same⟩⟩
theorem el_nil : EvL (tLst tNil) σ H [] := el_lst ea_nil (by decide)
theorem et_truthS {z : Str} (h : Ev te σ H (.str z)) (hz : z.length ≤ 100000) : EvT (fun σ H Q => te σ H fun x H' => ∃ k, TruV K x H' k ∧ Q k H') σ H ((z.length : Int) != 0) := fun H1 e Q q =>
  h H1 e _ fun H2 e2 => ⟨_, ⟨sz_of hz, rfl⟩, q H2 e2⟩
end
end L2.XK
namespace L2.KC
open PySem PySem.Spec PyProof.Rows XK Evl
theorem sep1 : Sep (": " : Str) := ⟨by decide +kernel, by decide +kernel⟩
theorem sep2 : Sep (" if " : Str) := ⟨by decide +kernel, by decide +kernel⟩
theorem sep3 : Sep (" and " : Str) := ⟨by decide +kernel, by decide +kernel⟩
theorem sep4 : Sep (", " : Str) := ⟨by decide +kernel, by decide +kernel⟩
def headS (s : Str) : Str := (Txt.partition s ": ").1
def tailS (s : Str) : Str := (Txt.partition s ": ").2.2
def occS (s : Str) : Str := (Txt.partition (headS s) " if ").1
def jointS (s : Str) : Str := (Txt.partition (headS s) " if ").2.1
def restS (s : Str) : Str := (Txt.partition (headS s) " if ").2.2
def condsS (s : Str) : List Str := if ((jointS s).length : Int) != 0 then Txt.split (restS s) " and " else []
def deedsS (s : Str) : List Str := Txt.split (tailS s) ", "
theorem head_len (s : Str) : (headS s).length ≤ s.length := (part_len sep1).1
theorem tail_len (s : Str) : (tailS s).length ≤ s.length := (part_len sep1).2.2
theorem occ_len (s : Str) : (occS s).length ≤ s.length := Nat.le_trans (part_len sep2).1 (head_len s)
theorem rest_len (s : Str) : (restS s).length ≤ s.length := Nat.le_trans (part_len sep2).2.2 (head_len s)
theorem joint_len (s : Str) : (jointS s).length ≤ 100000 := Nat.le_trans (part_len sep2).2.1 (by decide)
theorem cond_len {s c : Str} (h : c ∈ condsS s) : c.length ≤ s.length := by
  unfold condsS at h
  split at h
  · exact Nat.le_trans (split_len sep3 h) (rest_len s)
  · cases h
theorem deed_len {s c : Str} (h : c ∈ deedsS s) : c.length ≤ s.length := Nat.le_trans (split_len sep4 h) (tail_len s)
def rowS (s : Str) (words keys : List Str) : Bool :=
  !(decide (((condsS s).length : Int) > 4) || (decide (((deedsS s).length : Int) > 4) || !occOk (occS s) keys)) &&
    ((condsS s).all (fun c => condOk c (occS s) words) && (deedsS s).all fun c => deedOk c (occS s) words)
def rowD (d : PyData) (words keys : List Str) : Bool := match d with
  | .str s => rowS s words keys
  | _ => false
def badRow (ds : List PyData) (words keys : List Str) (i : Nat) : Bool := !rowD (ds.getD i .none) words keys
def wrongRow (ds : List PyData) (words keys : List Str) : Option Nat := firstOf ds.length (badRow ds words keys)
def spParts : Sp := fun vs H Q _ => ∃ s, vs = [.str s] ∧ s.length ≤ 100000 ∧ ∀ p c d H', Ex H H' → H' p = some (.tup [.str (occS s), .ref c, .ref d]) →
  H' c = some (.lst ((condsS s).map V.str)) → H' d = some (.lst ((deedsS s).map V.str)) → Q (.ref p) H'
def pRow (K : PySem.W.Frag) : List V → Hp → Bool → Prop := fun vs H b => ∃ x d r ys ss k ks, vs = [x, .ref r, .ref k] ∧ Da K H x d ∧ SqT K H r ys ∧ DaAll K H ys ss ∧ ss.length ≤ 40000 ∧
  (∀ d ∈ ss, standD d = true) ∧ SqT K H k (ks.map V.str) ∧ b = rowD d (ss.map wordOf) ks
def pWrongRow (K : PySem.W.Frag) : List V → Hp → Option Nat → Prop := fun vs H o => ∃ q rs ds r ys ss k ks, vs = [.ref q, .ref r, .ref k] ∧ SqT K H q rs ∧ DaAll K H rs ds ∧ SqT K H r ys ∧ DaAll K H ys ss ∧ ss.length ≤ 40000 ∧
  (∀ d ∈ ss, standD d = true) ∧ SqT K H k (ks.map V.str) ∧ o = wrongRow ds (ss.map wordOf) ks
section
variable {P : Program} {w : World} {K : PySem.W.Frag} {mg : Str → Option Value} {base : Heap} {a : AdrC}
theorem ok_parts (T : TxtC K mg a) : FnOk P w K mg base CX0 1 a.RowParts a.fdRowParts ["row"] spParts := by
  refine T.fRowParts.ok scRowParts (fun vs H Q E h => ?_) (fun cdv A outer s H vs Q E hr h => ?_)
  · obtain ⟨b, rfl, _⟩ := h
    rfl
  · obtain ⟨s, rfl, hz, k⟩ := h
    refine ⟨_, (pss_cons (ps_asg (pe_bm PySem.F.plainAttrs_str PySem.F.slot_str_partition PySem.F.type_str_partition mt_partition (pv 0) (pa_cons pe_str pa_nil)) (pg_tup (by rfl) (pgs_cons (pg_name (i := 2) scRowParts.nd rfl (by first | exact Or.inl rfl | exact Or.inr rfl)) (pgs_cons (pg_name (i := 3) scRowParts.nd rfl (by first | exact Or.inl rfl | exact Or.inr rfl)) (pgs_cons (pg_name (i := 4) scRowParts.nd rfl (by first | exact Or.inl rfl | exact Or.inr rfl)) pgs_nil)))))
      (pss_cons (ps_asg (pe_bm PySem.F.plainAttrs_str PySem.F.slot_str_partition PySem.F.type_str_partition mt_partition (pv 2) (pa_cons pe_str pa_nil)) (pg_tup (by rfl) (pgs_cons (pg_name (i := 5) scRowParts.nd rfl (by first | exact Or.inl rfl | exact Or.inr rfl)) (pgs_cons (pg_name (i := 6) scRowParts.nd rfl (by first | exact Or.inl rfl | exact Or.inr rfl)) (pgs_cons (pg_name (i := 7) scRowParts.nd rfl (by first | exact Or.inl rfl | exact Or.inr rfl)) pgs_nil)))))
      (pss_cons (ps_set (i := 1) scRowParts.nd rfl (by first | exact Or.inl rfl | exact Or.inr rfl) (by exact (pe_ifExp (pt_truth (pv 6) (by intro _; rfl)) (pe_bm PySem.F.plainAttrs_str PySem.F.slot_str_split PySem.F.type_str_split mt_split (pv 7) (pa_cons pe_str pa_nil)) (pe_lst pa_nil))))
      (pss_one (ps_ret (by exact (pe_tup (pa_cons (pv 5) (pa_cons (pv 1) (pa_cons (pe_bm PySem.F.plainAttrs_str PySem.F.slot_str_split PySem.F.type_str_split mt_split (pv 4) (pa_cons pe_str pa_nil)) pa_nil)))))))))), ?_⟩
    have h1 : (headS s).length ≤ 100000 := Nat.le_trans (head_len s) hz
    have h2 : (restS s).length ≤ 100000 := Nat.le_trans (rest_len s) hz
    have h3 : (tailS s).length ≤ 100000 := Nat.le_trans (tail_len s) hz
    refine ⟨_, rfl, rfl, s, ": ", rfl, rfl, sep1.len, sz_of hz, fun p1 hp1 => ?_⟩
    refine ⟨p1, _, rfl, st_of upd_same, rfl, _, _, rfl, _, _, rfl, _, _, rfl, rfl, ?_⟩
    refine ⟨_, rfl, rfl, headS s, " if ", rfl, rfl, sep2.len, sz_of h1, fun p2 hp2 => ?_⟩
    refine ⟨p2, _, rfl, st_of upd_same, rfl, _, _, rfl, _, _, rfl, _, _, rfl, rfl, ?_⟩
    have e0 : Ex H (upd (upd H p1 (.tup [.str (Txt.partition s ": ").1, .str (Txt.partition s ": ").2.1, .str (Txt.partition s ": ").2.2])) p2
      (.tup [.str (Txt.partition (headS s) " if ").1, .str (Txt.partition (headS s) " if ").2.1, .str (Txt.partition (headS s) " if ").2.2])) := (Ex.new hp1).trans (Ex.new hp2)
    dsimp only [tNext, tSeq]
    refine s_asgL (xs := (condsS s).map V.str) ?_ fun c H1 hc e1 h1c => ?_
    · refine el_if (et_truthS (ev_var (by rfl)) (joint_len s)) (fun hb => ?_) fun hb => ?_
      · have : condsS s = Txt.split (restS s) " and " := if_pos hb
        rw [this]
        exact el_split (ev_var (by rfl)) ev_c sep3 h2
      · have : condsS s = [] := if_neg (by
          have hb' : (((jointS s).length : Int) != 0) = false := hb
          rw [hb']
          decide)
        rw [this]
        exact el_nil
    · refine ⟨_, rfl, _, rfl, _, rfl, rfl, tailS s, ", ", rfl, rfl, sep4.len, Nat.le_trans (Nat.add_le_add_right h3 2) (by decide), fun d hd => ?_⟩
      refine ⟨by show 3 ≤ sizeLine; decide, fun p hp => ?_⟩
      refine k p c d _ ((e0.trans e1).trans ((Ex.new hd).trans (Ex.new hp))) upd_same ?_ ?_
      · exact Ex.new hp _ _ (Ex.new hd _ _ h1c)
      · exact Ex.new hp _ _ upd_same
theorem ok_row (T : TxtC K mg a) : FnOk P w K mg base CX0 4 a.IsRow a.fdIsRow ["thing", "stands", "keys"] (SpB (pRow K)) := by
  have GRowParts : FnOk P w K mg base CX0 1 a.RowParts a.fdRowParts ["row"] spParts := ok_parts T
  have GIsOccasion : FnOk P w K mg base CX0 2 a.IsOccasion a.fdIsOccasion ["text", "keys"] (SpB (pOcc K)) := ok_occ T
  have GIsCondition : FnOk P w K mg base CX0 3 a.IsCondition a.fdIsCondition ["text", "occasion", "words"] (SpB (pCond K)) := ok_cond T
  have GIsDeed : FnOk P w K mg base CX0 3 a.IsDeed a.fdIsDeed ["text", "occasion", "words"] (SpB (pDeed K)) := ok_deed T
  have GStandWords : FnOk P w K mg base CX0 1 a.StandWords a.fdStandWords ["stands"] (SpU (pWords K)) := ok_words T
  refine T.fIsRow.ok scIsRow (fun vs H Q E h => ?_) (fun cdv A outer s H vs Q E hr h => ?_)
  · obtain ⟨b, ⟨x, d, r, ys, ss, k, ks, rfl, _⟩, _⟩ := h
    rfl
  · obtain ⟨b, ⟨x, d, r, ys, ss, kk, ks, rfl, hd, hq, hx, hl, hs, hk, rfl⟩, k⟩ := h
    refine ⟨_, (pss_cons (ps_if (pt_not (pt_val (pe_callB (id := "isinstance") (r := rIsi K) call_isi (by rfl) T.bisinstance (by decide +kernel) (pa_cons (pv 0) (pa_cons (pe_bltn (v := .ty "str") (by rfl) T.bstr (by decide +kernel) rfl) pa_nil))))) (pss_one (ps_ret (by exact pe_bl))) pss_nil)
      (pss_cons (ps_asg (pe_call GRowParts (hr.mono (by decide)) (by rfl) T.gRowParts T.kRowParts T.bRowParts .nil pass0 (pa_cons (pv 0) pa_nil)) (pg_tup (by rfl) (pgs_cons (pg_name (i := 4) scIsRow.nd rfl (by first | exact Or.inl rfl | exact Or.inr rfl)) (pgs_cons (pg_name (i := 5) scIsRow.nd rfl (by first | exact Or.inl rfl | exact Or.inr rfl)) (pgs_cons (pg_name (i := 6) scIsRow.nd rfl (by first | exact Or.inl rfl | exact Or.inr rfl)) pgs_nil)))))
      (pss_cons (ps_if (PW.pt (pw_or (pt_cmpR op_gt (pe_callB call_len (by rfl) T.blen (by decide +kernel) (pa_cons (pv 5) pa_nil)) (pe_glob (v := .int 4) rfl T.mgMostConditions ⟨_, rfl⟩) (nomark _)) (pw_or (pt_cmpR op_gt (pe_callB call_len (by rfl) T.blen (by decide +kernel) (pa_cons (pv 6) pa_nil)) (pe_glob (v := .int 4) rfl T.mgMostDeeds ⟨_, rfl⟩) (nomark _)) (pw_or1 (pt_not (pt_val (pe_call GIsOccasion (hr.mono (by decide)) (by rfl) T.gIsOccasion T.kIsOccasion T.bIsOccasion .nil pass0 (pa_cons (pv 4) (pa_cons (pv 2) pa_nil))))))))) (pss_one (ps_ret (by exact pe_bl))) pss_nil)
      (pss_cons (ps_set (i := 3) scIsRow.nd rfl (by first | exact Or.inl rfl | exact Or.inr rfl) (by exact (pe_call GStandWords (hr.mono (by decide)) (by rfl) T.gStandWords T.kStandWords T.bStandWords .nil pass0 (pa_cons (pv 1) pa_nil))))
      (pss_one (ps_ret (by exact (pe_and (pe_callB (cr_all rfl) (by rfl) T.ball (by decide +kernel) (pa_cons (pe_lc (own := [("condition", 7)]) (g := gName 7) (tt := tYes) rfl scIsRow.nd (pi_list (pv 5)) (blkOk_by (own := [("condition", 7)]) (N := NIsRow) (sc := defScope sIsRow) (by decide +kernel)) (fun _ _ _ _ _ => pg_name (i := 7) scIsRow.nd rfl (Or.inl rfl)) (fun _ _ _ _ _ => by exact pts_nil) (fun _ _ _ _ _ => by exact (pe_call GIsCondition (hr.mono (by decide)) (by rfl) T.gIsCondition T.kIsCondition T.bIsCondition .nil pass0 (pa_cons (pv 7) (pa_cons (pv 4) (pa_cons (pv 3) pa_nil)))))) pa_nil)) (pe_one (pe_callB (cr_all rfl) (by rfl) T.ball (by decide +kernel) (pa_cons (pe_lc (own := [("deed", 8)]) (g := gName 8) (tt := tYes) rfl scIsRow.nd (pi_list (pv 6)) (blkOk_by (own := [("deed", 8)]) (N := NIsRow) (sc := defScope sIsRow) (by decide +kernel)) (fun _ _ _ _ _ => pg_name (i := 8) scIsRow.nd rfl (Or.inl rfl)) (fun _ _ _ _ _ => by exact pts_nil) (fun _ _ _ _ _ => by exact (pe_call GIsDeed (hr.mono (by decide)) (by rfl) T.gIsDeed T.kIsDeed T.bIsDeed .nil pass0 (pa_cons (pv 8) (pa_cons (pv 4) (pa_cons (pv 3) pa_nil)))))) pa_nil))))))))))), ?_⟩
    have v0 : ∀ H', Ev (tVar 0) (start NIsRow [x, .ref r, .ref kk]) H' x := fun H' => ev_var rfl
    refine s_when (b := !isD "str" d) (et_not (et_test (ev_isi (by decide) (v0 _) hd))) (fun hb H1 e1 => ?_) fun hb H1 e1 => ?_
    · refine s_ret (v := .bl (rowD d (ss.map wordOf) ks)) (ev_is ev_c ?_) fun H2 e2 => k H2 (e1.trans e2)
      cases d <;> first | rfl | (simp [isD, isTy, tyN] at hb)
    · have hb' : isD "str" d = true := by simpa using hb
      obtain ⟨z, rfl⟩ := isD_str hb'
      cases hd with
      | str _ hz =>
        refine ⟨_, rfl, z, rfl, hz, fun p c dd H2 e2 hp hc hdd => ?_⟩
        refine ⟨p, _, rfl, st_of hp, rfl, _, _, rfl, _, _, rfl, _, _, rfl, rfl, ?_⟩
        have e12 := e1.trans e2
        refine s_when (b := decide (((condsS z).length : Int) > 4) || (decide (((deedsS z).length : Int) > 4) || !occOk (occS z) ks)) (et_or (et_test (ev_op (ev_is (ev_lenL (ev_var (by rfl)) (sq_of hc)) (by rw [List.length_map])) ev_c rv_I0)) fun _ =>
            et_or (et_test (ev_op (ev_is (ev_lenL (ev_var (by rfl)) (sq_of hdd)) (by rw [List.length_map])) ev_c rv_I0)) fun _ => et_not (et_test (ev_callB (ea_cons (ev_var (by rfl)) (ea_cons (ev_var (by rfl)) ea_nil)) fun H3 e3 =>
              ⟨occS z, kk, ks, rfl, ex_t (e12.trans e3) hk, Nat.le_trans (occ_len z) hz, rfl⟩))) (fun hc2 H3 e3 => ?_) fun hc2 H3 e3 => ?_
        · refine s_ret (v := .bl (rowD (.str z) (ss.map wordOf) ks)) (ev_is ev_c ?_) fun H4 e4 => k H4 ((e12.trans e3).trans e4)
          show _ = V.bl (rowS z _ _)
          unfold rowS
          rw [hc2]
          rfl
        · dsimp only
          refine s_asgU (xs := (ss.map wordOf).map V.str) ?_ fun wp H4 hwp e4 hw => ?_
          · rw [List.map_map]
            exact eu_call (ea_cons (ev_var (by rfl)) ea_nil) fun H5 e5 => ⟨r, ys, ss, rfl, ex_t ((e12.trans e3).trans e5) hq, hx.ex ((e12.trans e3).trans e5), hl, hs, rfl⟩
          · dsimp only
            have n1 : (condsS z).length ≤ 4 ∧ (deedsS z).length ≤ 4 := by
              simp only [Bool.or_eq_false_iff, decide_eq_false_iff_not] at hc2
              omega
            refine s_ret (v := .bl (rowD (.str z) (ss.map wordOf) ks)) ?_ fun H5 e5 => k H5 (((e12.trans e3).trans e4).trans e5)
            show Ev _ _ _ (.bl (rowS z _ _))
            unfold rowS
            rw [hc2, Bool.not_false, Bool.true_and]
            refine ev_andV (ev_allL (fun c => condOk c (occS z) (ss.map wordOf)) (ev_var (by rfl)) (sq_of (e4 _ _ (e3 _ _ hc))) (by omega) (fun _ => rfl) fun c H6 hm e6 => ?_) fun _ => ?_
            · exact ev_callB (ea_cons (ev_var (by rfl)) (ea_cons (ev_var (by rfl)) (ea_cons (ev_var (by rfl)) ea_nil))) fun H7 e7 => ⟨c, occS z, wp, ss.map wordOf, rfl, st_of (e7 _ _ (e6 _ _ hw)), Nat.le_trans (cond_len hm) hz, rfl⟩
            · refine ev_allL (fun c => deedOk c (occS z) (ss.map wordOf)) (ev_var (by rfl)) (sq_of (e4 _ _ (e3 _ _ hdd))) (by omega) (fun _ => rfl) fun c H6 hm e6 => ?_
              exact ev_callB (ea_cons (ev_var (by rfl)) (ea_cons (ev_var (by rfl)) (ea_cons (ev_var (by rfl)) ea_nil))) fun H7 e7 => ⟨c, occS z, wp, ss.map wordOf, rfl, st_of (e7 _ _ (e6 _ _ hw)), Nat.le_trans (deed_len hm) hz, rfl⟩
theorem ok_wrongRow (T : TxtC K mg a) : FnOk P w K mg base CX0 5 a.WrongRow a.fdWrongRow ["rows", "stands", "keys"] (SpN (pWrongRow K)) := by
  have GIsRow : FnOk P w K mg base CX0 4 a.IsRow a.fdIsRow ["thing", "stands", "keys"] (SpB (pRow K)) := ok_row T
  refine T.fWrongRow.ok scWrongRow (fun vs H Q E h => ?_) (fun cdv A outer s H vs Q E hr h => ?_)
  · obtain ⟨b, ⟨q, rs, ds, r, ys, ss, k, ks, rfl, _⟩, _⟩ := h
    rfl
  · obtain ⟨b, ⟨q, rs, ds, r, ys, ss, kk, ks, rfl, hq0, hx0, hq, hx, hl, hs, hk, rfl⟩, k⟩ := h
    refine ⟨_, (pss_cons (ps_for PassesOwn.never rfl (XK.pi_enumT (by rfl) T.benumerate (pa_cons (pv 0) pa_nil)) (pg_tup (by rfl) (pgs_cons (pg_name (i := 3) scWrongRow.nd rfl (by first | exact Or.inl rfl | exact Or.inr rfl)) (pgs_cons (pg_name (i := 4) scWrongRow.nd rfl (by first | exact Or.inl rfl | exact Or.inr rfl)) pgs_nil))) (pss_one (ps_if (pt_not (pt_val (pe_call GIsRow (hr.mono (by decide)) (by rfl) T.gIsRow T.kIsRow T.bIsRow .nil pass0 (pa_cons (pv 4) (pa_cons (pv 1) (pa_cons (pv 2) pa_nil)))))) (pss_one (ps_ret (by exact (pv 3)))) pss_nil)))
      (pss_one (ps_ret (by exact pe_non)))), ?_⟩
    refine s_forE (xs := rs) (ea_cons (ev_var (by rfl)) ea_nil) hq0 (fun i σ H' => ∃ u v, σ = [some (.ref q), some (.ref r), some (.ref kk), u, v] ∧ Ex H H' ∧ ∀ j, j < i → badRow ds (ss.map wordOf) ks j = false) ?_ ?_ ?_ ?_
    · exact fun H1 e1 => ⟨_, _, rfl, e1, fun j hj => absurd hj (Nat.not_lt_zero _)⟩
    · rintro i σ' H' hi ⟨u, v, rfl, e1, _⟩
      exact ex_t e1 hq0
    · rintro i x Tt σ' H' hi ⟨u, v, rfl, e1, hb⟩ hT
      refine ⟨Tt, [.int (i : Nat), x], rfl, st_of upd_same, rfl, _, _, rfl, ?_⟩
      refine ⟨_, _, rfl, ?_⟩
      refine ⟨rfl, ?_⟩
      obtain ⟨d, hd, p⟩ := hx0.get hi
      have e2 : Ex H (upd H' Tt (.tup [.int (i : Nat), x])) := e1.trans (Ex.new hT)
      have eg : ds.getD i .none = d := by
        rw [List.getD, hd]
        rfl
      have il : i < rs.length := (List.getElem?_eq_some_iff.mp hi).1
      refine s_when (b := badRow ds (ss.map wordOf) ks i) (et_is (et_not (et_test (ev_callB (b := rowD d (ss.map wordOf) ks) (ea_cons (ev_var (by rfl)) (ea_cons (ev_var (by rfl)) (ea_cons (ev_var (by rfl)) ea_nil))) fun H3 e3 =>
          ⟨x, d, r, ys, ss, kk, ks, rfl, p.ex (e2.trans e3), ex_t (e2.trans e3) hq, hx.ex (e2.trans e3), hl, hs, ex_t (e2.trans e3) hk, rfl⟩))) ?_) (fun hc H3 e3 => ?_) fun hc H3 e3 => ?_
      · unfold badRow
        rw [eg]
      · refine s_ret (v := .int (i : Int)) (ev_var (by rfl)) fun H4 e4 => ?_
        have := k H4 ((e2.trans e3).trans e4)
        rw [show wrongRow ds (ss.map wordOf) ks = some i from first_some (by rw [← hx0.len]; exact il) hc hb] at this
        exact this
      · refine ⟨_, _, rfl, e2.trans e3, fun j hj => ?_⟩
        rcases Nat.lt_succ_iff_lt_or_eq.mp hj with h | rfl
        · exact hb j h
        · exact hc
    · rintro σ' H' ⟨u, v, rfl, e1, hb⟩
      dsimp only
      refine s_ret (v := .non) ev_c fun H4 e4 => ?_
      have := k H4 (e1.trans e4)
      rw [show wrongRow ds (ss.map wordOf) ks = none from first_none (by rw [← hx0.len]; exact hb)] at this
      exact this
end
end L2.KC

set_option Elab.async false
set_option maxRecDepth 100000
set_option maxHeartbeats 4000000
set_option linter.all false
/-! raise C(..) of an own class whose __init__ stores its parameters; the exception's context is None. -/
namespace L2.XK
open PySem PySem.Spec PyProof.Rows XC Evl
section
variable {P : Program} {w : World} {K : PySem.W.Frag} {mg : Str → Option Value} {base : Heap}
theorem Fun.okN {x qual : Str} {st : Stmt} {f : Addr} {fd : FuncData} {N ps : List Str} {k : Nat} {sp : Sp} (F : Fun K x qual st f fd) (S : FnScope N ps (defScope st))
    (len : ∀ vs H Q E, sp vs H Q E → vs.length = ps.length)
    (hbody : ∀ (cdv : Value) (A : Around) (outer : List Env) (s : Shared) (H : Hp) (vs : List V) (Q : VK) (E : XK), Room k (A.deeper (envOfC qual (defScope st) s.heap.objs.size f cdv)) → sp vs H Q E →
      ∃ t, PSs (cxOf (L2N.CX P w) P w K mg base N qual (defScope st) f cdv A outer s H E) (defBody st) t ∧ t { nx := fun _ H' => Q .non H', rt := Q } (start N vs) H) :
    FnOk P w K mg base (L2N.CX P w) (k + 1) f fd ps sp := by
  obtain ⟨oc, od, kV, doc, pm, an, cdv, ct, osl, rfl, lk, hcd⟩ := F.ex
  exact fn_of lk hcd S len fun A outer s H vs Q E hr hsp => hbody cdv A outer s H vs Q E hr hsp
end
section
variable {X : Cx} {pins : List (Addr × Obj)} {σ : St} {H1 : Hp} {s1 : Shared}
/-- the reading of raise C(..) -/
def tMkX (C : Addr) (fsOf : List V → Option (List (Str × V))) (ta : TA) : St → Hp → XK → Prop := fun σ H Q => ta σ H fun vs H1 => ∃ fs, fsOf vs = some fs ∧
  ∀ d, H1 d = none → Q (.ref C) (some d) (upd H1 d (.xd fs))
theorem pmk_x {C : Addr} {n : Nat} {x : Str} {p pos : Pos} {e : Expr} {es : List Expr} {ta : TA} {fsOf : List V → Option (List (Str × V))}
    (mk : Maker X C n [] fsOf) (hl : ∀ vs fs, fsOf vs = some fs → vs.length = n) (kC : PySem.W.keepIn X.K (.ref C) = true) (gC : X.mg x = some (.ref C)) (rs : Raises X (.ref C)) (ha : PA X (e :: es) ta) (hg : Gl X x := by rfl)
    (hdb : (x == ("__debug__" : Str)) = false := by decide)
    (he : starEach (e :: es) X.env = (false, eval e X.env) :: starEach es X.env := by rfl) (hpl : (backTo pos (starEach es X.env)).any (·.1) = false := by rfl) :
    L2N.PMk X (.Call (.Name x p) (e :: es) [] pos) (tMkX C fsOf ta) := by
  intro pins s σ H Q I h
  refine wpAny_Call_Name_kw (ld_glob I hg gC ?_ hdb)
  refine PySem.W.callWith_K (h₀ := X.base) I.ok.mod.kin kC (thn (ha.run pos pins s σ H _ I h) fun us s1 hh => ?_) he hpl
  obtain ⟨vs, H1, I1, r1, fs, ef, q1⟩ := hh
  refine ⟨I1.kIn, ?_⟩
  show wpAny _ _ (call (.ref C) us) _ _ _
  refine wpAny_call (mk s1 vs us [] fs _ I1.kIn I1.nolimit ?_ rfl (by rw [List.append_nil]; exact r1) ef fun h' tk e d m M r => ?_)
  · rw [← r1.length]
    exact hl vs fs ef
  · obtain ⟨t1, hoe⟩ := M.obj
    have he : H1 e = none := I1.hok.fresh M.new
    have hd : H1 d = none := I1.hok.fresh M.dbig
    obtain ⟨G, g1, g2⟩ := L2.restrict h' fun b => decide (b ≠ e)
    have gk : ∀ b, b ≠ e → G.get? b = h'.get? b := fun b hb => g1 b (decide_eq_true hb)
    have ge : G.get? e = none := g2 e (by simp)
    have old : ∀ b o, s1.heap.get? b = some o → G.get? b = some o := fun b o q => by
      refine (gk b ?_).trans (M.keep b o q)
      exact Nat.ne_of_lt (Nat.lt_of_lt_of_le (Heap.lt_size q) M.new)
    have ob : ObjOk X.prog X.w (upd H1 d (.xd fs)) G d (.xd fs) := ⟨m, M.ns.at (fun o q => (gk d M.dne).trans q), r⟩
    have J : Inv X pins σ (upd H1 d (.xd fs)) { s1 with heap := G, toks := tk } := I1.laid (t' := tk) old M.dbig ob
    have he2 : (upd H1 d (.xd fs)) e = none := by
      rw [upd_ne (Ne.symm M.dne)]
      exact he
    have hup : ∀ b o, G.get? b = some o → h'.get? b = some o := fun b o q => by
      have hb : b ≠ e := fun z => by
        rw [z, ge] at q
        cases q
      exact (gk b hb).symm.trans q
    exact ⟨e, _, _, _, _, .ref C, some d, rfl, J, hup, ge, hoe, ⟨rfl, rfl, fun vs q => by cases q; rfl⟩, rfl, rfl, he2, rfl, J.bare, rs, q1 d hd⟩
end
section
variable {K : PySem.W.Frag} {σ : L2.St} {H : Hp} {ta : TA} {C : Addr} {W : WX}
theorem s_raise {vs : List V} {fsOf : List V → Option (List (Str × V))} {fs : List (Str × V)} (h : EvA ta σ H vs) (hf : fsOf vs = some fs)
    (k : ∀ d H1, H d = none → Ex H H1 → H1 d = some (.xd fs) → W (.ref C) (some d) σ H1) : tMkX C fsOf ta σ H fun cls d H' => W cls d σ H' :=
  h H (Ex.refl _) _ fun H1 e1 => ⟨fs, hf, fun d hd => k d _ (fresh_back e1 hd) (e1.trans (Ex.new hd)) upd_same⟩
/-- a def that may raise: none, or the one field of an exception of the class C -/
def SpE (C : Addr) (f : Str) (P : List V → Hp → Option V → Prop) : Sp := fun vs H Q E => ∃ o, P vs H o ∧ match o with
  | none => ∀ H', Ex H H' → Q .non H'
  | some v => ∀ d H', H d = none → Ex H H' → H' d = some (.xd [(f, v)]) → E (.ref C) (some d) H'
end
end L2.XK

set_option Elab.async false
set_option maxRecDepth 100000
set_option maxHeartbeats 4000000
set_option linter.all false
/-! The checks that raise. -/
namespace L2.XK
open PySem PySem.Spec PyProof.Rows XC Evl
structure RaB (K : PySem.W.Frag) (C : Addr) : Prop where
  sb : PySem.W.subIn K (.ref C) (.type "BaseException") = some true
  ty : PySem.W.typeIn K (.ref C) = some (.type "type")
theorem RaB.raises {X : Cx} {C : Addr} (r : RaB X.K C) : Raises X (.ref C) := raises_own r.sb r.ty
theorem rv_notN {H : Hp} {x : V} : RV (fun x y H Q => y = .non ∧ Q (.bl (!decide (x = .non))) H) x .non H (.bl (!decide (x = .non))) := fun H1 e Q q => ⟨rfl, q H1 (Ex.refl _)⟩
end L2.XK
namespace L2.KC
open PySem PySem.Spec PyProof.Rows XK Evl
abbrev sCheckStands : Stmt := topS 64
abbrev NCheckStands : List Str := ["stands", "at"]
theorem scCheckStands : FnScope NCheckStands ["stands"] (defScope sCheckStands) := ⟨rfl, rfl, rfl, by decide +kernel, rfl, by decide +kernel, by decide +kernel⟩
abbrev sCheckKeys : Stmt := topS 65
abbrev NCheckKeys : List Str := ["keys", "at"]
theorem scCheckKeys : FnScope NCheckKeys ["keys"] (defScope sCheckKeys) := ⟨rfl, rfl, rfl, by decide +kernel, rfl, by decide +kernel, by decide +kernel⟩
abbrev sCheckRows : Stmt := topS 66
abbrev NCheckRows : List Str := ["rows", "stands", "keys", "at"]
theorem scCheckRows : FnScope NCheckRows ["rows", "stands", "keys"] (defScope sCheckRows) := ⟨rfl, rfl, rfl, by decide +kernel, rfl, by decide +kernel, by decide +kernel⟩
/-- where the checks that raise stand -/
structure AdrH where
  CheckStands : Addr
  fdCheckStands : FuncData
  CheckKeys : Addr
  fdCheckKeys : FuncData
  CheckRows : Addr
  fdCheckRows : FuncData
  InvalidStands : Addr
  iInvalidStands : Addr
  InvalidKeys : Addr
  iInvalidKeys : Addr
  InvalidRows : Addr
  iInvalidRows : Addr
  InvalidNumber : Addr
  iInvalidNumber : Addr
structure TxtH (K : PySem.W.Frag) (mg : Str → Option Value) (a : AdrC) (b : AdrH) : Prop extends TxtC K mg a where
  gCheckStands : mg "check_stands" = some (.ref b.CheckStands)
  kCheckStands : PySem.W.keepIn K (.ref b.CheckStands) = true
  fCheckStands : Fun K "check_stands" "check_stands" sCheckStands b.CheckStands b.fdCheckStands
  bCheckStands : Binds K b.fdCheckStands ["stands"] []
  gCheckKeys : mg "check_keys" = some (.ref b.CheckKeys)
  kCheckKeys : PySem.W.keepIn K (.ref b.CheckKeys) = true
  fCheckKeys : Fun K "check_keys" "check_keys" sCheckKeys b.CheckKeys b.fdCheckKeys
  bCheckKeys : Binds K b.fdCheckKeys ["keys"] []
  gCheckRows : mg "check_rows" = some (.ref b.CheckRows)
  kCheckRows : PySem.W.keepIn K (.ref b.CheckRows) = true
  fCheckRows : Fun K "check_rows" "check_rows" sCheckRows b.CheckRows b.fdCheckRows
  bCheckRows : Binds K b.fdCheckRows ["rows", "stands", "keys"] []
  gInvalidStands : mg "InvalidStands" = some (.ref b.InvalidStands)
  cInvalidStands : XC.ClsIx K b.InvalidStands b.iInvalidStands "ValueError" "ValueError.__new__" "ValueError.__init__" [.type "ValueError", .type "Exception", .type "BaseException", .type "object"]
  rInvalidStands : XK.RaB K b.InvalidStands
  gInvalidKeys : mg "InvalidKeys" = some (.ref b.InvalidKeys)
  cInvalidKeys : XC.ClsIx K b.InvalidKeys b.iInvalidKeys "ValueError" "ValueError.__new__" "ValueError.__init__" [.type "ValueError", .type "Exception", .type "BaseException", .type "object"]
  rInvalidKeys : XK.RaB K b.InvalidKeys
  gInvalidRows : mg "InvalidRows" = some (.ref b.InvalidRows)
  cInvalidRows : XC.ClsIx K b.InvalidRows b.iInvalidRows "ValueError" "ValueError.__new__" "ValueError.__init__" [.type "ValueError", .type "Exception", .type "BaseException", .type "object"]
  rInvalidRows : XK.RaB K b.InvalidRows
  gInvalidNumber : mg "InvalidNumber" = some (.ref b.InvalidNumber)
  cInvalidNumber : XC.ClsGv K b.InvalidNumber b.iInvalidNumber "ValueError" "ValueError.__new__" "ValueError.__init__" [.type "ValueError", .type "Exception", .type "BaseException", .type "object"]
  rInvalidNumber : XK.RaB K b.InvalidNumber

def faultOf : Option Nat → Option V
  | some i => some (.int (i : Int))
  | none => none
def keysFault (d : PyData) : Option V := match d with
  | .tuple ds => if ds.length ≤ 3 then faultOf (wrongKey ds) else some .non
  | _ => some .non
def standsFault (d : PyData) : Option V := match d with
  | .tuple ds => if 2 ≤ ds.length ∧ ds.length ≤ 6 then faultOf (wrongStand ds) else some .non
  | _ => some .non
def rowsFault (d : PyData) (words keys : List Str) : Option V := match d with
  | .tuple ds => if ds.length ≤ 16 then faultOf (wrongRow ds words keys) else some .non
  | _ => some .non
def pCheck (K : PySem.W.Frag) (g : PyData → Option V) : List V → Hp → Option V → Prop := fun vs H o => ∃ x d, vs = [x] ∧ Da K H x d ∧ o = g d
def pCheckRows (K : PySem.W.Frag) : List V → Hp → Option V → Prop := fun vs H o => ∃ x d r ys ss k ks, vs = [x, .ref r, .ref k] ∧ Da K H x d ∧ SqT K H r ys ∧ DaAll K H ys ss ∧ ss.length ≤ 40000 ∧
  (∀ d ∈ ss, standD d = true) ∧ SqT K H k (ks.map V.str) ∧ o = rowsFault d (ss.map wordOf) ks
section
variable {P : Program} {w : World} {K : PySem.W.Frag} {mg : Str → Option Value} {base : Heap} {a : AdrC} {b : AdrH}
theorem ok_checkKeys (T : TxtH K mg a b) : FnOk P w K mg base (L2N.CX P w) 3 b.CheckKeys b.fdCheckKeys ["keys"] (SpE b.InvalidKeys "index" (pCheck K keysFault)) := by
  have GWrongKey : FnOk P w K mg base CX0 2 a.WrongKey a.fdWrongKey ["keys"] (SpN (pWrongKey K)) := ok_wrongKey T.toTxtC
  refine Fun.okN T.fCheckKeys scCheckKeys (fun vs H Q E h => ?_) (fun cdv A outer s H vs Q E hr h => ?_)
  · obtain ⟨o, ⟨x, d, rfl, _⟩, _⟩ := h
    rfl
  · obtain ⟨o, ⟨x, d, rfl, hd, rfl⟩, k⟩ := h
    refine ⟨_, (pss_cons (ps_if (PW.pt (pw_or (pt_not (pt_val (pe_callB (id := "isinstance") (r := rIsi K) call_isi (by rfl) T.bisinstance (by decide +kernel) (pa_cons (pv 0) (pa_cons (pe_bltn (v := .ty "tuple") (by rfl) T.btuple (by decide +kernel) rfl) pa_nil))))) (pw_or1 (pt_cmpR op_gt (pe_callB call_len (by rfl) T.blen (by decide +kernel) (pa_cons (pv 0) pa_nil)) (pe_glob (v := .int 3) rfl T.mgMostKeys ⟨_, rfl⟩) (nomark _))))) (pss_one (L2N.ps_raise rfl (L2N.takes_of rfl rfl rfl rfl) (XK.pmk_x (XK.mkIxP T.cInvalidKeys (hr.mono (by decide) : Room 1 _)) XK.hlOne T.cInvalidKeys.kC T.gInvalidKeys (T.rInvalidKeys.raises) (pa_cons pe_non pa_nil)))) pss_nil)
      (pss_cons (ps_set (i := 1) scCheckKeys.nd rfl (by first | exact Or.inl rfl | exact Or.inr rfl) (by exact (pe_call GWrongKey (hr.mono (by decide)) (by rfl) T.gWrongKey T.kWrongKey T.bWrongKey .nil pass0 (pa_cons (pv 0) pa_nil))))
      (pss_one (ps_if (pt_cmpR op_notN (pv 1) pe_non (nomark _)) (pss_one (L2N.ps_raise rfl (L2N.takes_of rfl rfl rfl rfl) (XK.pmk_x (XK.mkIxP T.cInvalidKeys (hr.mono (by decide) : Room 1 _)) XK.hlOne T.cInvalidKeys.kC T.gInvalidKeys (T.rInvalidKeys.raises) (pa_cons (pv 1) pa_nil)))) pss_nil)))), ?_⟩
    refine s_when (b := !isD "tuple" d || decide (((tupLen d : Nat) : Int) > 3)) (et_or (et_not (et_test (ev_isi (by decide) (ev_var (by rfl)) hd))) fun h1 => ?_) (fun hb H1 e1 => ?_) fun hb H1 e1 => ?_
    · have h1' : isD "tuple" d = true := by simpa using h1
      obtain ⟨ds, rfl⟩ := isD_tup h1'
      cases hd with
      | tup hq hx =>
        refine et_test (ev_op (ev_is (ev_lenT (ev_var (by rfl)) hq) ?_) ev_c rv_I0)
        rw [hx.len]
        rfl
    · have e : keysFault d = some .non := by
        cases d <;> first | rfl | skip
        rename_i ds
        have : ¬ ds.length ≤ 3 := by
          have q : decide (((tupLen (.tuple ds) : Nat) : Int) > 3) = true := by simpa [isD, isTy, tyN] using hb
          have q' := of_decide_eq_true q
          have e : tupLen (.tuple ds) = ds.length := rfl
          omega
        exact if_neg this
      rw [e] at k
      exact s_raise (W := fun cls d _ H => E cls d H) (ea_cons ev_c ea_nil) rfl fun d H2 hd e2 h2 => k d H2 (fresh_back e1 hd) (e1.trans e2) h2
    · simp only [Bool.or_eq_false_iff, Bool.not_eq_false', decide_eq_false_iff_not] at hb
      obtain ⟨ds, rfl⟩ := isD_tup hb.1
      have hl : ds.length ≤ 3 := by
        have e : tupLen (.tuple ds) = ds.length := rfl
        omega
      have e : keysFault (.tuple ds) = faultOf (wrongKey ds) := if_pos hl
      rw [e] at k
      cases hd with
      | tup hq hx =>
        dsimp only [tNext, tSeq]
        refine s_asg (v := optV (wrongKey ds)) (ev_callN (ea_cons (ev_var (by rfl)) ea_nil) fun H2 e2 => ⟨_, _, ds, rfl, ex_t (e1.trans e2) hq, hx.ex (e1.trans e2), by omega, rfl⟩) fun H2 e2 => ?_
        cases hw : wrongKey ds with
        | none =>
          rw [hw] at k
          dsimp only [tNext, tSeq]
          refine s_when (b := false) (et_test (ev_op (ev_var (by rfl)) ev_c (rv_notN (x := .non)))) (fun z => nomatch z) fun _ H3 e3 => ?_
          exact k H3 ((e1.trans e2).trans e3)
        | some i =>
          rw [hw] at k
          dsimp only [tNext, tSeq]
          refine s_when (b := true) (et_test (ev_op (ev_var (by rfl)) ev_c (rv_notN (x := .int (i : Int))))) (fun _ H3 e3 => ?_) fun z => nomatch z
          exact s_raise (W := fun cls d _ H => E cls d H) (ea_cons (ev_var (by rfl)) ea_nil) rfl fun d H4 hd e4 h4 => k d H4 (fresh_back ((e1.trans e2).trans e3) hd) (((e1.trans e2).trans e3).trans e4) h4
theorem ok_checkStands (T : TxtH K mg a b) : FnOk P w K mg base (L2N.CX P w) 4 b.CheckStands b.fdCheckStands ["stands"] (SpE b.InvalidStands "index" (pCheck K standsFault)) := by
  have GWrongStand : FnOk P w K mg base CX0 3 a.WrongStand a.fdWrongStand ["stands"] (SpN (pWrongStand K)) := ok_wrongStand T.toTxtC
  refine Fun.okN T.fCheckStands scCheckStands (fun vs H Q E h => ?_) (fun cdv A outer s H vs Q E hr h => ?_)
  · obtain ⟨o, ⟨x, d, rfl, _⟩, _⟩ := h
    rfl
  · obtain ⟨o, ⟨x, d, rfl, hd, rfl⟩, k⟩ := h
    refine ⟨_, (pss_cons (ps_if (PW.pt (pw_or (pt_not (pt_val (pe_callB (id := "isinstance") (r := rIsi K) call_isi (by rfl) T.bisinstance (by decide +kernel) (pa_cons (pv 0) (pa_cons (pe_bltn (v := .ty "tuple") (by rfl) T.btuple (by decide +kernel) rfl) pa_nil))))) (pw_or1 (pt_not (pt_chain op_le op_le (pe_glob (v := .int 2) rfl T.mgFewestStands ⟨_, rfl⟩) (pe_callB call_len (by rfl) T.blen (by decide +kernel) (pa_cons (pv 0) pa_nil)) (pe_glob (v := .int 6) rfl T.mgMostStands ⟨_, rfl⟩)))))) (pss_one (L2N.ps_raise rfl (L2N.takes_of rfl rfl rfl rfl) (XK.pmk_x (XK.mkIxP T.cInvalidStands (hr.mono (by decide) : Room 1 _)) XK.hlOne T.cInvalidStands.kC T.gInvalidStands (T.rInvalidStands.raises) (pa_cons pe_non pa_nil)))) pss_nil)
      (pss_cons (ps_set (i := 1) scCheckStands.nd rfl (by first | exact Or.inl rfl | exact Or.inr rfl) (by exact (pe_call GWrongStand (hr.mono (by decide)) (by rfl) T.gWrongStand T.kWrongStand T.bWrongStand .nil pass0 (pa_cons (pv 0) pa_nil))))
      (pss_one (ps_if (pt_cmpR op_notN (pv 1) pe_non (nomark _)) (pss_one (L2N.ps_raise rfl (L2N.takes_of rfl rfl rfl rfl) (XK.pmk_x (XK.mkIxP T.cInvalidStands (hr.mono (by decide) : Room 1 _)) XK.hlOne T.cInvalidStands.kC T.gInvalidStands (T.rInvalidStands.raises) (pa_cons (pv 1) pa_nil)))) pss_nil)))), ?_⟩
    refine s_when (b := !isD "tuple" d || !(decide ((2 : Int) ≤ ((tupLen d : Nat) : Int)) && decide (((tupLen d : Nat) : Int) ≤ 6))) (et_or (et_not (et_test (ev_isi (by decide) (ev_var (by rfl)) hd))) fun h1 => ?_) (fun hb H1 e1 => ?_) fun hb H1 e1 => ?_
    · have h1' : isD "tuple" d = true := by simpa using h1
      obtain ⟨ds, rfl⟩ := isD_tup h1'
      cases hd with
      | tup hq hx =>
        refine et_not (et_test (ev_chain ev_c (ev_is (ev_lenT (ev_var (by rfl)) hq) ?_) rv_I0 ev_c rv_I0))
        rw [hx.len]
        rfl
    · have e : standsFault d = some .non := by
        cases d <;> first | rfl | skip
        rename_i ds
        have : ¬ (2 ≤ ds.length ∧ ds.length ≤ 6) := by
          intro z
          have e : tupLen (.tuple ds) = ds.length := rfl
          rw [e] at hb
          have z1 : (2 : Int) ≤ ((ds.length : Nat) : Int) := by omega
          have z2 : ((ds.length : Nat) : Int) ≤ 6 := by omega
          simp [isD, isTy, tyN, z1, z2] at hb
        exact if_neg this
      rw [e] at k
      exact s_raise (W := fun cls d _ H => E cls d H) (ea_cons ev_c ea_nil) rfl fun d H2 hd e2 h2 => k d H2 (fresh_back e1 hd) (e1.trans e2) h2
    · simp only [Bool.or_eq_false_iff, Bool.not_eq_false', Bool.and_eq_true, decide_eq_true_eq] at hb
      obtain ⟨ds, rfl⟩ := isD_tup hb.1
      have hl : 2 ≤ ds.length ∧ ds.length ≤ 6 := by
        have e : tupLen (.tuple ds) = ds.length := rfl
        rw [e] at hb
        omega
      have e : standsFault (.tuple ds) = faultOf (wrongStand ds) := if_pos hl
      rw [e] at k
      cases hd with
      | tup hq hx =>
        dsimp only [tNext, tSeq]
        refine s_asg (v := optV (wrongStand ds)) (ev_callN (ea_cons (ev_var (by rfl)) ea_nil) fun H2 e2 => ⟨_, _, ds, rfl, ex_t (e1.trans e2) hq, hx.ex (e1.trans e2), by omega, rfl⟩) fun H2 e2 => ?_
        cases hw : wrongStand ds with
        | none =>
          rw [hw] at k
          dsimp only [tNext, tSeq]
          refine s_when (b := false) (et_test (ev_op (ev_var (by rfl)) ev_c (rv_notN (x := .non)))) (fun z => nomatch z) fun _ H3 e3 => ?_
          exact k H3 ((e1.trans e2).trans e3)
        | some i =>
          rw [hw] at k
          dsimp only [tNext, tSeq]
          refine s_when (b := true) (et_test (ev_op (ev_var (by rfl)) ev_c (rv_notN (x := .int (i : Int))))) (fun _ H3 e3 => ?_) fun z => nomatch z
          exact s_raise (W := fun cls d _ H => E cls d H) (ea_cons (ev_var (by rfl)) ea_nil) rfl fun d H4 hd e4 h4 => k d H4 (fresh_back ((e1.trans e2).trans e3) hd) (((e1.trans e2).trans e3).trans e4) h4
theorem ok_checkRows (T : TxtH K mg a b) : FnOk P w K mg base (L2N.CX P w) 6 b.CheckRows b.fdCheckRows ["rows", "stands", "keys"] (SpE b.InvalidRows "index" (pCheckRows K)) := by
  have GWrongRow : FnOk P w K mg base CX0 5 a.WrongRow a.fdWrongRow ["rows", "stands", "keys"] (SpN (pWrongRow K)) := ok_wrongRow T.toTxtC
  refine Fun.okN T.fCheckRows scCheckRows (fun vs H Q E h => ?_) (fun cdv A outer s H vs Q E hr h => ?_)
  · obtain ⟨o, ⟨x, d, r, ys, ss, kk, ks, rfl, _⟩, _⟩ := h
    rfl
  · obtain ⟨o, ⟨x, d, r, ys, ss, kk, ks, rfl, hd, hq2, hx2, hl2, hs2, hk2, rfl⟩, k⟩ := h
    refine ⟨_, (pss_cons (ps_if (PW.pt (pw_or (pt_not (pt_val (pe_callB (id := "isinstance") (r := rIsi K) call_isi (by rfl) T.bisinstance (by decide +kernel) (pa_cons (pv 0) (pa_cons (pe_bltn (v := .ty "tuple") (by rfl) T.btuple (by decide +kernel) rfl) pa_nil))))) (pw_or1 (pt_cmpR op_gt (pe_callB call_len (by rfl) T.blen (by decide +kernel) (pa_cons (pv 0) pa_nil)) (pe_glob (v := .int 16) rfl T.mgMostRows ⟨_, rfl⟩) (nomark _))))) (pss_one (L2N.ps_raise rfl (L2N.takes_of rfl rfl rfl rfl) (XK.pmk_x (XK.mkIxP T.cInvalidRows (hr.mono (by decide) : Room 1 _)) XK.hlOne T.cInvalidRows.kC T.gInvalidRows (T.rInvalidRows.raises) (pa_cons pe_non pa_nil)))) pss_nil)
      (pss_cons (ps_set (i := 3) scCheckRows.nd rfl (by first | exact Or.inl rfl | exact Or.inr rfl) (by exact (pe_call GWrongRow (hr.mono (by decide)) (by rfl) T.gWrongRow T.kWrongRow T.bWrongRow .nil pass0 (pa_cons (pv 0) (pa_cons (pv 1) (pa_cons (pv 2) pa_nil))))))
      (pss_one (ps_if (pt_cmpR op_notN (pv 3) pe_non (nomark _)) (pss_one (L2N.ps_raise rfl (L2N.takes_of rfl rfl rfl rfl) (XK.pmk_x (XK.mkIxP T.cInvalidRows (hr.mono (by decide) : Room 1 _)) XK.hlOne T.cInvalidRows.kC T.gInvalidRows (T.rInvalidRows.raises) (pa_cons (pv 3) pa_nil)))) pss_nil))))
, ?_⟩
    refine s_when (b := !isD "tuple" d || decide (((tupLen d : Nat) : Int) > 16)) (et_or (et_not (et_test (ev_isi (by decide) (ev_var (by rfl)) hd))) fun h1 => ?_) (fun hb H1 e1 => ?_) fun hb H1 e1 => ?_
    · have h1' : isD "tuple" d = true := by simpa using h1
      obtain ⟨ds, rfl⟩ := isD_tup h1'
      cases hd with
      | tup hq hx =>
        refine et_test (ev_op (ev_is (ev_lenT (ev_var (by rfl)) hq) ?_) ev_c rv_I0)
        rw [hx.len]
        rfl
    · have e : rowsFault d (ss.map wordOf) ks = some .non := by
        cases d <;> first | rfl | skip
        rename_i ds
        have : ¬ ds.length ≤ 16 := by
          have q : decide (((tupLen (.tuple ds) : Nat) : Int) > 16) = true := by simpa [isD, isTy, tyN] using hb
          have q' := of_decide_eq_true q
          have e : tupLen (.tuple ds) = ds.length := rfl
          omega
        exact if_neg this
      rw [e] at k
      exact s_raise (W := fun cls d _ H => E cls d H) (ea_cons ev_c ea_nil) rfl fun d H2 hd e2 h2 => k d H2 (fresh_back e1 hd) (e1.trans e2) h2
    · simp only [Bool.or_eq_false_iff, Bool.not_eq_false', decide_eq_false_iff_not] at hb
      obtain ⟨ds, rfl⟩ := isD_tup hb.1
      have hl : ds.length ≤ 16 := by
        have e : tupLen (.tuple ds) = ds.length := rfl
        omega
      have e : rowsFault (.tuple ds) (ss.map wordOf) ks = faultOf (wrongRow ds (ss.map wordOf) ks) := if_pos hl
      rw [e] at k
      cases hd with
      | tup hq hx =>
        dsimp only [tNext, tSeq]
        refine s_asg (v := optV (wrongRow ds (ss.map wordOf) ks)) (ev_callN (ea_cons (ev_var (by rfl)) (ea_cons (ev_var (by rfl)) (ea_cons (ev_var (by rfl)) ea_nil))) fun H2 e2 =>
          ⟨_, _, ds, r, ys, ss, kk, ks, rfl, ex_t (e1.trans e2) hq, hx.ex (e1.trans e2), ex_t (e1.trans e2) hq2, hx2.ex (e1.trans e2), hl2, hs2, ex_t (e1.trans e2) hk2, rfl⟩) fun H2 e2 => ?_
        cases hw : wrongRow ds (ss.map wordOf) ks with
        | none =>
          rw [hw] at k
          dsimp only [tNext, tSeq]
          refine s_when (b := false) (et_test (ev_op (ev_var (by rfl)) ev_c (rv_notN (x := .non)))) (fun z => nomatch z) fun _ H3 e3 => ?_
          exact k H3 ((e1.trans e2).trans e3)
        | some i =>
          rw [hw] at k
          dsimp only [tNext, tSeq]
          refine s_when (b := true) (et_test (ev_op (ev_var (by rfl)) ev_c (rv_notN (x := .int (i : Int))))) (fun _ H3 e3 => ?_) fun z => nomatch z
          exact s_raise (W := fun cls d _ H => E cls d H) (ea_cons (ev_var (by rfl)) ea_nil) rfl fun d H4 hd e4 h4 => k d H4 (fresh_back ((e1.trans e2).trans e3) hd) (((e1.trans e2).trans e3).trans e4) h4
end
end L2.KC

set_option Elab.async false
set_option maxRecDepth 100000
set_option maxHeartbeats 4000000
set_option linter.all false
/-! The text of a house. -/
namespace L2.XK
open PySem PySem.Spec PyProof.Rows XC Evl TL
section
variable {K : PySem.W.Frag} {σ : L2.St} {H : Hp} {ta tb tc te : TE}
def EvJ (ts : List TE) (acc : Str) (σ : L2.St) (H : Hp) (out : Str) : Prop := ∀ H1, Ex H H1 → ∀ Q : Str → Hp → Prop, (∀ H2, Ex H1 H2 → Q out H2) → tJs ts acc σ H1 Q
theorem ej_nil {acc : Str} : EvJ [] acc σ H acc := fun H1 e Q q => q H1 (Ex.refl _)
theorem ej_cons {t : TE} {ts : List TE} {acc y out : Str} (h : Ev t σ H (.str y)) (hz : (acc ++ y).length ≤ 100000) (r : EvJ ts (acc ++ y) σ H out) : EvJ (t :: ts) acc σ H out := fun H1 e Q q =>
  h H1 e _ fun H2 e2 => ⟨y, rfl, sz_of hz, r H2 (e.trans e2) Q fun H3 e3 => q H3 (e2.trans e3)⟩
theorem ev_joined {ts : List TE} {out : Str} (h : EvJ ts Str.empty σ H out) : Ev (fun σ H Q => tJs ts Str.empty σ H fun out H1 => Q (.str out) H1) σ H (.str out) := fun H1 e Q q => h H1 e _ fun H2 e2 => q H2 e2
theorem ev_fmtS {y : Str} (h : Ev te σ H (.str y)) (hz : y.length ≤ 100000) : Ev (tFmt te) σ H (.str y) := fun H1 e Q q => h H1 e _ fun H2 e2 => .inl ⟨y, rfl, sz_of hz, q H2 e2⟩
theorem ev_fmtI {i : Int} (h : Ev te σ H (.int i)) (hz : i.natAbs.log2 < 1920) : Ev (tFmt te) σ H (.str (toString i)) := fun H1 e Q q => h H1 e _ fun H2 e2 => .inr ⟨i, rfl, hz, q H2 e2⟩
/-- a list made pair by pair of a tuple -/
theorem el_lcP {a : Addr} {xs : List V} {j l : Nat} {vs : List Nat} (v : Nat → V) (h : Ev te σ H (.ref a)) (hx : SqT K H a xs) (hz : xs.length ≤ 40000)
    (hw : ∀ x y, wipe (((wipe σ vs).set j (some x)).set l (some y)) vs = wipe σ vs)
    (he : ∀ (i : Nat) (x : V), xs[i]? = some x → ∃ q u w, x = .ref q ∧ SqT K H q [u, w] ∧ ∀ H1, Ex H H1 → Ev tb (((wipe σ vs).set j (some u)).set l (some w)) H1 (v i)) :
    EvL (tLc (iTup K te) (gTup K 2 (gCons (gName j) (gCons (gName l) gNil))) tYes tb vs) σ H ((List.range xs.length).map v) := fun H0 e Q q => h H0 e _ fun H1 e1 => ⟨a, rfl, ⟨xs, ex_t (e.trans e1) hx⟩, fun Dl hD =>
  lc_tup (xs := xs) (fun i H' => H1 Dl = none ∧ Ex H1 H' ∧ H' Dl = some (.lst ((List.range i).map v))) ⟨hD, Ex.new hD, upd_same⟩ (fun i H' _ p => ex_t ((e.trans e1).trans p.2.1) hx)
    (fun i x H' hi ⟨p1, p2, p3⟩ => by
      obtain ⟨r, u, w, rfl, hq, hv⟩ := he i x hi
      refine ⟨r, _, rfl, ex_t ((e.trans e1).trans p2) hq, rfl, _, _, rfl, _, _, rfl, rfl, hw _ _, ?_⟩
      exact hv H1 (e.trans e1) H' p2 _ fun H4 e4 => ⟨(List.range i).map v, e4 _ _ p3, sz_lt (by
        have := (List.getElem?_eq_some_iff.mp hi).1
        simp; omega), p1, Ex.mut (p2.trans e4) p1, by
          rw [List.range_succ, List.map_append]
          exact upd_same⟩)
    (fun H' p => q Dl H' (fresh_back e1 p.1) (e1.trans p.2.1) p.2.2)⟩
def rJoin (K : PySem.W.Frag) : V → List V → Hp → VK → Prop := fun x xs H Q => ∃ a p, ∃ ys : List Str, x = .str a ∧ xs = [.ref p] ∧ (SqL K H p (ys.map V.str) ∨ SqT K H p (ys.map V.str)) ∧
  (ys.map (·.length)).sum + ys.length * a.length ≤ 16777216 ∧ Q (.str (Txt.join a ys)) H
theorem ev_joinT {x : Str} {p : Addr} {ys : List Str} (ha : Ev ta σ H (.str x)) (hb : Ev tb σ H (.ref p)) (hp : SqT K H p (ys.map V.str)) (hz : (ys.map (·.length)).sum + ys.length * x.length ≤ 16777216) :
    Ev (tBM K "str" (rJoin K) ta (tCons tb tNil)) σ H (.str (Txt.join x ys)) := fun H1 e Q q =>
  ha H1 e _ fun H2 e2 => ⟨rfl, hb H2 (e.trans e2) _ fun H3 e3 => ⟨x, p, ys, rfl, rfl, .inr (ex_t ((e.trans e2).trans e3) hp), hz, q H3 (e2.trans e3)⟩⟩
theorem ev_joinL {x : Str} {ys : List Str} (ha : Ev ta σ H (.str x)) (hb : EvL tb σ H (ys.map V.str)) (hz : (ys.map (·.length)).sum + ys.length * x.length ≤ 16777216) :
    Ev (tBM K "str" (rJoin K) ta (tCons tb tNil)) σ H (.str (Txt.join x ys)) := fun H1 e Q q =>
  ha H1 e _ fun H2 e2 => ⟨rfl, hb H2 (e.trans e2) _ fun p H3 _ e3 h3 => ⟨x, p, ys, rfl, rfl, .inl (sq_of h3), hz, q H3 (e2.trans e3)⟩⟩
theorem sum_le {m : Nat} : ∀ {l : List Str}, (∀ y ∈ l, y.length ≤ m) → (l.map (·.length)).sum ≤ l.length * m
  | [], _ => by simp
  | y :: l, h => by
    have h1 := h y List.mem_cons_self
    have h2 := sum_le (l := l) fun z hz => h z (List.mem_cons_of_mem _ hz)
    simp only [List.map_cons, List.sum_cons, List.length_cons]
    rw [Nat.succ_mul]
    omega
theorem joinL_len (S : List Nat) : ∀ l : List (List Nat), (joinL S l).length ≤ (l.map (·.length)).sum + l.length * S.length
  | [] => by simp [joinL]
  | [p] => by simp [joinL]
  | p :: r :: t => by
    have h := joinL_len S (r :: t)
    simp only [joinL, List.map_cons, List.sum_cons, List.length_cons, List.length_append] at h ⊢
    rw [Nat.succ_mul]
    omega
theorem join_len (y : Str) (l : List Str) : (Txt.join y l).length ≤ (l.map (·.length)).sum + l.length * y.length := by
  have h := joinL_len (tl y) (l.map tl)
  rw [← tl_join, ← join_eq, ← len_tl, List.map_map, List.length_map, ← len_tl] at h
  have e : (l.map ((·.length) ∘ tl)) = l.map (·.length) := by
    apply List.map_congr_left
    intro z _
    exact (len_tl z).symm
  rw [e] at h
  exact h
/-- a list display with parts spliced in: [x, *new list, *tuple] -/
theorem el_spl {x : V} {xs zs : List V} {p : Addr} (ha : Ev ta σ H x) (hb : EvL tb σ H xs) (hc : Ev tc σ H (.ref p)) (hp : SqT K H p zs) (hz : 1 + (xs.length + zs.length) ≤ 100000) :
    EvL (tLst (tCons ta (StX.tStar K tb (StX.tStar K tc tNil)))) σ H (x :: (xs ++ zs)) := fun H1 e Q q =>
  ha H1 e _ fun H2 e2 => hb H2 (e.trans e2) _ fun l H3 hl e3 h3 => ⟨l, xs, rfl, .inr (sq_of h3), hc H3 ((e.trans e2).trans e3) _ fun H4 e4 => ⟨p, zs, rfl, .inl (ex_t (((e.trans e2).trans e3).trans e4) hp), by
    show (x :: (xs ++ (zs ++ []))).length ≤ _ ∧ _
    rw [List.append_nil]
    exact ⟨sz_of (by simp; omega), fun r hr => q r _ (fresh_back ((e2.trans e3).trans e4) hr) (((e2.trans e3).trans e4).trans (Ex.new hr)) upd_same⟩⟩⟩
theorem rv_addS {i j : Str} (h : i.length + j.length ≤ 100000) : RV (fun x y H Q => ∃ i j, x = .str i ∧ y = .str j ∧ i.length + j.length ≤ sizeLine ∧ Q (.str (i ++ j)) H) (.str i) (.str j) H (.str (i ++ j)) :=
  fun H1 e Q q => ⟨i, j, rfl, rfl, sz_of h, q H1 (Ex.refl _)⟩
def SpS (P : List V → Hp → Str → Prop) : Sp := fun vs H Q _ => ∃ z, P vs H z ∧ ∀ H', Ex H H' → Q (.str z) H'
end
end L2.XK
namespace L2.KC
open PySem PySem.Spec PyProof.Rows XK Evl
abbrev sHouseText : Stmt := topS 67
abbrev NHouseText : List Str := ["lines", "stands", "keys", "rows", "first", "stand", "sound"]
theorem scHouseText : FnScope NHouseText ["lines", "stands", "keys", "rows"] (defScope sHouseText) := ⟨rfl, rfl, rfl, by decide +kernel, rfl, by decide +kernel, by decide +kernel⟩
/-- where the text's maker stands -/
structure TxtT (K : PySem.W.Frag) (mg : Str → Option Value) (f : Addr) (fd : FuncData) : Prop where
  gHouseText : mg "house_text" = some (.ref f)
  kHouseText : PySem.W.keepIn K (.ref f) = true
  fHouseText : Fun K "house_text" "house_text" sHouseText f fd
  bHouseText : Binds K fd ["lines", "stands", "keys", "rows"] []

def numT (n : Int) : Str := (Str.empty ++ ("lines " : Str)) ++ ((toString n : String) : Str)
def keysT (ks : List Str) : Str := Txt.join " " ks
def firstT (n : Int) (ks : List Str) : Str := if ks.isEmpty then numT n else (numT n ++ (", keys " : Str)) ++ keysT ks
def pairOf : PyData → Str × Str
  | .tuple [.str s, .str u] => (s, u)
  | _ => default
def standT (p : Str × Str) : Str := (((Str.empty ++ ("stand " : Str)) ++ p.1) ++ (" " : Str)) ++ p.2
def partsT (n : Int) (ps : List (Str × Str)) (ks rows : List Str) : List Str := firstT n ks :: (ps.map standT ++ rows)
def houseT (n : Int) (ps : List (Str × Str)) (ks rows : List Str) : Str := Txt.join "\n" (partsT n ps ks rows)
def pText (K : PySem.W.Frag) : List V → Hp → Str → Prop := fun vs H z => ∃ (n : Int) (r : Addr) (ys : List V) (ss : List PyData) (k : Addr) (ks : List Str) (q : Addr) (rows : List Str),
  vs = [.int n, .ref r, .ref k, .ref q] ∧ 1 ≤ n ∧ n ≤ 3 ∧ SqT K H r ys ∧ DaAll K H ys ss ∧ (∀ d ∈ ss, standD d = true) ∧ ss.length ≤ 6 ∧
  SqT K H k (ks.map V.str) ∧ ks.length ≤ 3 ∧ (∀ x ∈ ks, x.length ≤ 8) ∧ SqT K H q (rows.map V.str) ∧ rows.length ≤ 16 ∧ (∀ x ∈ rows, x.length ≤ 100000) ∧ z = houseT n (ss.map pairOf) ks rows
theorem len_app (x y : Str) : (x ++ y).length = x.length + y.length := by
  show (x ++ y).cps.size = _
  rw [Str.cps_append, Array.size_append]
  rfl
theorem num_len {n : Int} (h1 : 1 ≤ n) (h2 : n ≤ 3) : ((toString n : String) : Str).length ≤ 20 := by
  obtain rfl | rfl | rfl : n = 1 ∨ n = 2 ∨ n = 3 := by omega
  all_goals decide +kernel
theorem numT_len {n : Int} (h1 : 1 ≤ n) (h2 : n ≤ 3) : (numT n).length ≤ 40 := by
  have := num_len h1 h2
  unfold numT
  rw [len_app, len_app]
  have e1 : Str.empty.length = 0 := rfl
  have e2 : ("lines " : Str).length = 6 := by decide +kernel
  omega
theorem word_len {s : Str} (h : wordS s = true) : s.length ≤ 8 := by
  unfold wordS lenB at h
  simp at h
  omega
theorem keysT_len {ks : List Str} (h : ks.length ≤ 3) (h8 : ∀ x ∈ ks, x.length ≤ 8) : (keysT ks).length ≤ 40 ∧ (ks.map (·.length)).sum + ks.length * (" " : Str).length ≤ 40 := by
  have h1 := join_len " " ks
  have h2 := sum_le h8
  have e : (" " : Str).length = 1 := by decide +kernel
  rw [e] at h1 ⊢
  unfold keysT
  omega
theorem firstT_len {n : Int} {ks : List Str} (h1 : 1 ≤ n) (h2 : n ≤ 3) (h : ks.length ≤ 3) (h8 : ∀ x ∈ ks, x.length ≤ 8) : (firstT n ks).length ≤ 100 := by
  have a := numT_len h1 h2
  have b := (keysT_len h h8).1
  have e : (", keys " : Str).length = 7 := by decide +kernel
  unfold firstT
  split
  · omega
  · rw [len_app, len_app]
    omega
theorem standT_len {p : Str × Str} (h1 : p.1.length ≤ 8) (h2 : p.2.length ≤ 8) : (standT p).length ≤ 40 := by
  unfold standT
  rw [len_app, len_app, len_app, len_app]
  have e1 : Str.empty.length = 0 := rfl
  have e2 : ("stand " : Str).length = 6 := by decide +kernel
  have e3 : (" " : Str).length = 1 := by decide +kernel
  omega
section
variable {P : Program} {w : World} {K : PySem.W.Frag} {mg : Str → Option Value} {base : Heap} {a : AdrC} {f : Addr} {fd : FuncData}
theorem ok_text (T : TxtT K mg f fd) : FnOk P w K mg base CX0 1 f fd ["lines", "stands", "keys", "rows"] (SpS (pText K)) := by
  refine T.fHouseText.ok scHouseText (fun vs H Q E h => ?_) (fun cdv A outer s H vs Q E hr h => ?_)
  · obtain ⟨z, ⟨n, r, ys, ss, k, ks, q, rows, rfl, _⟩, _⟩ := h
    rfl
  · obtain ⟨z, ⟨n, r, ys, ss, kk, ks, q, rows, rfl, n1, n3, hq, hx, hs, hl, hk, hkl, hk8, hr0, hrl, hr8, rfl⟩, k⟩ := h
    refine ⟨_, (pss_cons (ps_set (i := 4) scHouseText.nd rfl (by first | exact Or.inl rfl | exact Or.inr rfl) (by exact (pe_joined (.cons pe_str (.cons (pe_fmt (pv 0)) PJ.nil)))))
      (pss_cons (ps_if (pt_truth (pv 2) (by intro _; rfl)) (pss_one (ps_set (i := 4) scHouseText.nd rfl (by first | exact Or.inl rfl | exact Or.inr rfl) (by exact (pe_op op_add_str (pe_op op_add_str (pv 4) pe_str) (pe_bm PySem.F.plainAttrs_str PySem.F.slot_str_join PySem.F.type_str_join mt_join pe_str (pa_cons (pv 2) pa_nil)))))) pss_nil)
      (pss_one (ps_ret (by exact (pe_bm PySem.F.plainAttrs_str PySem.F.slot_str_join PySem.F.type_str_join mt_join pe_str (pa_cons (pe_lst (pa_cons (pv 4) (StX.pa_star (pe_lc (own := [("stand", 5), ("sound", 6)]) (g := gTup K 2 (gCons (gName 5) (gCons (gName 6) gNil))) (tt := tYes) rfl scHouseText.nd (pi_tup (pv 1)) (blkOk_by (own := [("stand", 5), ("sound", 6)]) (N := NHouseText) (sc := defScope sHouseText) (by decide +kernel)) (fun _ _ _ _ _ => pg_tup (by rfl) (pgs_cons (pg_name (i := 5) scHouseText.nd rfl (Or.inl rfl)) (pgs_cons (pg_name (i := 6) scHouseText.nd rfl (Or.inl rfl)) pgs_nil))) (fun _ _ _ _ _ => by exact pts_nil) (fun _ _ _ _ _ => by exact (pe_joined (.cons pe_str (.cons (pe_fmt (pv 5)) (.cons pe_str (.cons (pe_fmt (pv 6)) PJ.nil))))))) (StX.pa_star (pv 3) pa_nil)))) pa_nil)))))))
, ?_⟩
    have nl : n.natAbs.log2 < 1920 := by
      obtain rfl | rfl | rfl : n = 1 ∨ n = 2 ∨ n = 3 := by omega
      all_goals decide +kernel
    have l0 := numT_len n1 n3
    have l1 := keysT_len hkl hk8
    have l2 := firstT_len n1 n3 hkl hk8
    have e7 : (", keys " : Str).length = 7 := by decide +kernel
    have e6 : ("lines " : Str).length = 6 := by decide +kernel
    have e1 : ("\n" : Str).length = 1 := by decide +kernel
    refine s_asg (v := .str (numT n)) (ev_joined (ej_cons ev_c (by rw [len_app, e6]; decide) (ej_cons (ev_fmtI (ev_var (by rfl)) nl) (by show (numT n).length ≤ _; omega) ej_nil))) fun H1 e1' => ?_
    dsimp only [tNext, tSeq]
    refine s_ifAsg (v := .str (firstT n ks)) (b := !ks.isEmpty) (fun H2 e2 Q2 q2 => ⟨_, rfl, !ks.isEmpty, .inr (.inl ⟨_, ex_t (e1'.trans e2) hk, by cases ks <;> rfl⟩), q2 H2 (Ex.refl _)⟩) (fun hb => ?_) (fun hb => ?_) fun H2 e2 => ?_
    · have eb : ks.isEmpty = false := by simpa using hb
      have ef : firstT n ks = (numT n ++ (", keys " : Str)) ++ keysT ks := if_neg (by rw [eb]; decide)
      rw [ef]
      refine ev_op (ev_op (ev_var (by rfl)) ev_c (rv_addS (by omega))) (ev_joinT ev_c (ev_var (by rfl)) (ex_t e1' hk) (by omega)) (rv_addS ?_)
      rw [len_app]
      have := l1.1
      unfold keysT at this
      omega
    · have eb : ks.isEmpty = true := by simpa using hb
      have ef : firstT n ks = numT n := if_pos eb
      rw [ef]
      rfl
    · have e12 := e1'.trans e2
      have es : ((ss.map pairOf).map standT).map V.str = (List.range ys.length).map fun i => V.str (standT (pairOf (ss.getD i .none))) := by
        rw [hx.len, List.map_map, List.map_map]
        exact (range_mapD ss .none (V.str ∘ standT ∘ pairOf)).symm
      have ep : (partsT n (ss.map pairOf) ks rows).map V.str = V.str (firstT n ks) :: (((List.range ys.length).map fun i => V.str (standT (pairOf (ss.getD i .none)))) ++ rows.map V.str) := by
        unfold partsT
        rw [List.map_cons, List.map_append, es]
      have hm : ∀ y ∈ partsT n (ss.map pairOf) ks rows, y.length ≤ 100000 := by
        intro y hy
        rcases List.mem_cons.mp hy with rfl | hy
        · omega
        · rcases List.mem_append.mp hy with hy | hy
          · obtain ⟨p, hp, rfl⟩ := List.mem_map.mp hy
            obtain ⟨d, hd, rfl⟩ := List.mem_map.mp hp
            obtain ⟨s1, u1, rfl⟩ := standD_is (hs d hd)
            have hw := hs _ hd
            unfold standD at hw
            simp only [Bool.and_eq_true] at hw
            have := standT_len (p := (s1, u1)) (word_len (s := s1) hw.1) (word_len (s := u1) hw.2.1)
            exact Nat.le_trans this (by decide)
          · exact hr8 y hy
      have hc : (partsT n (ss.map pairOf) ks rows).length ≤ 23 := by
        unfold partsT
        simp
        omega
      have hsum : ((partsT n (ss.map pairOf) ks rows).map (·.length)).sum + (partsT n (ss.map pairOf) ks rows).length * ("\n" : Str).length ≤ 16777216 := by
        have h1 := sum_le hm
        rw [e1]
        have h2 : (partsT n (ss.map pairOf) ks rows).length * 100000 ≤ 23 * 100000 := Nat.mul_le_mul_right _ hc
        omega
      dsimp only
      refine s_ret (v := .str (houseT n (ss.map pairOf) ks rows)) (ev_joinL ev_c ?_ hsum) fun H3 e3 => k H3 (e12.trans e3)
      rw [ep]
      refine el_spl (ev_var (by rfl)) (el_lcP _ (ev_var (by rfl)) (ex_t e12 hq) (by rw [hx.len]; omega) (fun _ _ => rfl) fun i x hi => ?_) (ev_var (by rfl)) (ex_t e12 hr0) (by simp; have := hx.len; omega)
      obtain ⟨d, hd, p⟩ := hx.get hi
      have hw := hs d (List.mem_of_getElem? hd)
      obtain ⟨s1, u1, rfl⟩ := standD_is hw
      unfold standD at hw
      simp only [Bool.and_eq_true] at hw
      have w1 := word_len (s := s1) hw.1
      have w2 := word_len (s := u1) hw.2.1
      have e2' : ss.getD i .none = .tuple [.str s1, .str u1] := by
        rw [List.getD, hd]
        rfl
      rw [e2', show pairOf (.tuple [.str s1, .str u1]) = (s1, u1) from rfl]
      have w1' : (s1, u1).1.length ≤ 8 := w1
      have w2' : (s1, u1).2.length ≤ 8 := w2
      cases p with
      | @tup q2 _ _ hq2 hx2 =>
        cases hx2 with
        | cons a1 b1 =>
          cases a1
          cases b1 with
          | cons a2 b2 =>
            cases a2
            cases b2
            refine ⟨q2, _, _, rfl, ex_t e12 hq2, fun H4 e4 => ev_joined ?_⟩
            have l3 := standT_len (p := (s1, u1)) w1 w2
            unfold standT at l3
            rw [len_app, len_app, len_app] at l3
            exact ej_cons ev_c (by omega) (ej_cons (ev_fmtS (ev_var (by rfl)) (by omega)) (by rw [len_app]; omega) (ej_cons ev_c (by rw [len_app, len_app]; omega) (ej_cons (ev_fmtS (ev_var (by rfl)) (by omega)) (by rw [len_app, len_app, len_app]; omega) ej_nil)))
end
end L2.KC

set_option Elab.async false
set_option maxRecDepth 100000
set_option maxHeartbeats 4000000
set_option linter.all false
/-! A house is made. -/
namespace L2.KC
open PySem PySem.Spec PyProof.Rows XK Evl
def clsS (i j : Nat) : Stmt := match topS i with
  | .ClassDef _ _ _ body .. => body.getD j (.Pass ⟨0, 0, 0, 0⟩)
  | _ => .Pass ⟨0, 0, 0, 0⟩
abbrev sHouseInit : Stmt := clsS 63 0
abbrev NHouseInit : List Str := ["self", "lines", "stands", "keys", "rows"]
theorem scHouseInit : FnScope NHouseInit ["self", "lines", "stands", "keys", "rows"] (defScope sHouseInit) := ⟨rfl, rfl, rfl, by decide +kernel, rfl, by decide +kernel, by decide +kernel⟩
structure AdrO where
  House : Addr
  Init : Addr
  fdInit : FuncData
  Text : Addr
  fdText : FuncData
  E1 : Addr
  E2 : Addr
/-- what the top has written of the class -/
structure TxtO (K : PySem.W.Frag) (mg : Str → Option Value) (a : AdrC) (b : AdrH) (o : AdrO) : Prop extends TxtH K mg a b where
  tx : TxtT K mg o.Text o.fdText
  cl : Cls K o.House
  n1 : NoAttr K o.House "line_count"
  n2 : NoAttr K o.House "stand_pairs"
  n3 : NoAttr K o.House "key_names"
  n4 : NoAttr K o.House "row_texts"
  n5 : NoAttr K o.House "text"
  init : FunD K "__init__" "House.__init__" (defArgs sHouseInit) (defBody sHouseInit) (defScope sHouseInit) [.ref o.E1, .ref o.E2] [] o.Init o.fdInit
  e1 : WT K o.E1 []
  e2 : WT K o.E2 []
  mkH : Mk K o.House o.Init
  gHouse : mg "House" = some (.ref o.House)

theorem first_all {n : Nat} {f : Nat → Bool} (h : firstOf n f = none) : ∀ i, i < n → f i = false := by
  unfold firstOf at h
  rw [List.find?_eq_none] at h
  intro i hi
  have := h i (List.mem_range.mpr hi)
  simpa using this
theorem fault_none {o : Option Nat} (h : faultOf o = none) : o = none := by
  cases o with
  | none => rfl
  | some i => cases h
theorem mem_bad {ds : List PyData} {f : PyData → Bool} {bad : Nat → Bool} (hb : ∀ j, bad j = false → f (ds.getD j .none) = true) (h : firstOf ds.length bad = none) : ∀ d ∈ ds, f d = true := by
  intro d hd
  obtain ⟨i, hi, e⟩ := List.mem_iff_getElem.mp hd
  have := hb i (first_all h i hi)
  rw [List.getD, List.getElem?_eq_getElem hi] at this
  rw [← e]
  exact this
theorem stands_none {d : PyData} (h : standsFault d = none) : ∃ ss, d = .tuple ss ∧ 2 ≤ ss.length ∧ ss.length ≤ 6 ∧ ∀ x ∈ ss, standD x = true := by
  cases d <;> try (cases h)
  rename_i ss
  unfold standsFault at h
  dsimp only at h
  split at h
  · rename_i hl
    refine ⟨ss, rfl, hl.1, hl.2, mem_bad (bad := badStand ss) (fun j hj => ?_) (fault_none h)⟩
    unfold badStand at hj
    simp only [Bool.or_eq_false_iff, Bool.not_eq_false'] at hj
    exact hj.1
  · cases h
theorem strs_of : ∀ {ds : List PyData}, (∀ d ∈ ds, ∃ s, d = .str s) → ds = (ds.map strOf).map PyData.str
  | [], _ => rfl
  | d :: ds, h => by
    obtain ⟨s, rfl⟩ := h d List.mem_cons_self
    rw [List.map_cons, List.map_cons, ← strs_of fun x hx => h x (List.mem_cons_of_mem _ hx)]
    rfl
theorem keys_none {d : PyData} (h : keysFault d = none) : ∃ ks : List Str, d = .tuple (ks.map PyData.str) ∧ ks.length ≤ 3 ∧ ∀ x ∈ ks, wordS x = true := by
  cases d <;> try (cases h)
  rename_i ds
  unfold keysFault at h
  dsimp only at h
  split at h
  · rename_i hl
    have hw : ∀ x ∈ ds, wordD x = true := mem_bad (bad := badKey ds) (fun j hj => by
      unfold badKey at hj
      simp only [Bool.or_eq_false_iff, Bool.not_eq_false'] at hj
      exact hj.1) (fault_none h)
    have e := strs_of fun x hx => by
      obtain ⟨s, hs, _⟩ := wordD_str (hw x hx)
      exact ⟨s, hs⟩
    refine ⟨ds.map strOf, by rw [← e], by rw [List.length_map]; exact hl, fun x hx => ?_⟩
    obtain ⟨y, hy, rfl⟩ := List.mem_map.mp hx
    obtain ⟨s, rfl, hs⟩ := wordD_str (hw y hy)
    exact hs
  · cases h
theorem rowD_str {d : PyData} {ws ks : List Str} (h : rowD d ws ks = true) : ∃ s, d = .str s ∧ rowS s ws ks = true := by
  cases d <;> first | exact ⟨_, rfl, h⟩ | (simp [rowD] at h)
theorem rows_none {d : PyData} {ws ks : List Str} (h : rowsFault d ws ks = none) : ∃ rs : List Str, d = .tuple (rs.map PyData.str) ∧ rs.length ≤ 16 ∧ ∀ x ∈ rs, rowS x ws ks = true := by
  cases d <;> try (cases h)
  rename_i ds
  unfold rowsFault at h
  dsimp only at h
  split at h
  · rename_i hl
    have hw : ∀ x ∈ ds, rowD x ws ks = true := mem_bad (f := fun d => rowD d ws ks) (bad := badRow ds ws ks) (fun j hj => by
      unfold badRow at hj
      simpa using hj) (fault_none h)
    have e := strs_of fun x hx => by
      obtain ⟨s, hs, _⟩ := rowD_str (hw x hx)
      exact ⟨s, hs⟩
    refine ⟨ds.map strOf, by rw [← e], by rw [List.length_map]; exact hl, fun x hx => ?_⟩
    obtain ⟨y, hy, rfl⟩ := List.mem_map.mp hx
    obtain ⟨s, rfl, hs⟩ := rowD_str (hw y hy)
    exact hs
  · cases h
theorem daStrs {K : PySem.W.Frag} {H : Hp} : ∀ {vs : List V} {l : List Str}, DaAll K H vs (l.map PyData.str) → vs = l.map V.str ∧ ∀ x ∈ l, x.length ≤ 100000
  | [], [], _ => ⟨rfl, fun x hx => by cases hx⟩
  | v :: vs, s :: l, h => by
    cases h with
    | cons p q =>
      obtain ⟨e, hl⟩ := daStrs q
      cases p with
      | str _ hz => exact ⟨by rw [e]; rfl, fun x hx => by
        rcases List.mem_cons.mp hx with rfl | hx
        · exact hz
        · exact hl x hx⟩
  | [], _ :: _, h => by cases h
  | _ :: _, [], h => by cases h
/-- the error that is told first -/
def standsOf : PyData → List PyData
  | .tuple ss => ss
  | _ => []
def keysOf : PyData → List Str
  | .tuple ds => ds.map strOf
  | _ => []
def intD : PyData → Int
  | .int i => i
  | _ => 0
def houseFault (b : AdrH) (l : V) (dl ds dk dr : PyData) : Option (Addr × Str × V) :=
  if betw dl 1 3 then match standsFault ds with
    | some v => some (b.InvalidStands, ("index" : Str), v)
    | none => match keysFault dk with
      | some v => some (b.InvalidKeys, ("index" : Str), v)
      | none => match rowsFault dr ((standsOf ds).map wordOf) (keysOf dk) with
        | some v => some (b.InvalidRows, ("index" : Str), v)
        | none => none
  else some (b.InvalidNumber, ("given" : Str), l)
def fieldsOf (l st ky rw : V) (t : Str) : List (Str × V) := [("line_count", l), ("stand_pairs", st), ("key_names", ky), ("row_texts", rw), ("text", .str t)]
def houseD (dl ds dk dr : PyData) : Str := houseT (intD dl) ((standsOf ds).map pairOf) (keysOf dk) (keysOf dr)
def spInit (K : PySem.W.Frag) (b : AdrH) (C : Addr) : Sp := fun vs H Q E => ∃ x dx l st ky rw dl ds dk dr, vs = [.ref x, l, st, ky, rw] ∧ H x = some (.ins C dx []) ∧
  Da K (delH H x) l dl ∧ Da K (delH H x) st ds ∧ Da K (delH H x) ky dk ∧ Da K (delH H x) rw dr ∧
  match houseFault b l dl ds dk dr with
  | some (c, f, v) => ∀ d H', H d = none → Ex H H' → H' d = some (.xd [(f, v)]) → E (.ref c) (some d) H'
  | none => ∀ H', But x H H' → H' x = some (.ins C dx (fieldsOf l st ky rw (houseD dl ds dk dr))) → Q .non H'
theorem fault_some {o : Option V} (h : o ≠ none) : ∃ v, o = some v := by
  cases o with
  | none => exact absurd rfl h
  | some v => exact ⟨v, rfl⟩
section
variable {P : Program} {w : World} {K : PySem.W.Frag} {mg : Str → Option Value} {base : Heap} {a : AdrC} {b : AdrH} {o : AdrO}
theorem ok_init (T : TxtO K mg a b o) : FnOk P w K mg base (L2N.CX P w) 7 o.Init o.fdInit ["self", "lines", "stands", "keys", "rows"] (spInit K b o.House) := by
  have GIsBetween : FnOk P w K mg base CX0 2 a.IsBetween a.fdIsBetween ["thing", "least", "most"] (SpB (pBetween K)) := ok_between T.toTxtC
  have GCheckStands : FnOk P w K mg base (L2N.CX P w) 4 b.CheckStands b.fdCheckStands ["stands"] (SpE b.InvalidStands "index" (pCheck K standsFault)) := ok_checkStands T.toTxtH
  have GCheckKeys : FnOk P w K mg base (L2N.CX P w) 3 b.CheckKeys b.fdCheckKeys ["keys"] (SpE b.InvalidKeys "index" (pCheck K keysFault)) := ok_checkKeys T.toTxtH
  have GCheckRows : FnOk P w K mg base (L2N.CX P w) 6 b.CheckRows b.fdCheckRows ["rows", "stands", "keys"] (SpE b.InvalidRows "index" (pCheckRows K)) := ok_checkRows T.toTxtH
  have GHouseText : FnOk P w K mg base CX0 1 o.Text o.fdText ["lines", "stands", "keys", "rows"] (SpS (pText K)) := ok_text T.tx
  refine T.init.ok scHouseInit (fun vs H Q E h => ?_) (fun cdv A outer s H vs Q E hr h => ?_)
  · obtain ⟨x, dx, l, st, ky, rw, dl, ds, dk, dr, rfl, _⟩ := h
    rfl
  · obtain ⟨x, dx, l, st, ky, rw', dl, ds, dk, dr, rfl, hx, hl, hs, hk, hrw, k⟩ := h
    refine ⟨_, (pss_cons (ps_if (pt_not (pt_val (pe_call GIsBetween (hr.mono (by decide)) (by rfl) T.gIsBetween T.kIsBetween T.bIsBetween .nil pass0 (pa_cons (pv 1) (pa_cons pe_int (pa_cons (pe_glob (v := .int 3) rfl T.mgMostLines ⟨_, rfl⟩) pa_nil)))))) (pss_one (L2N.ps_raise rfl (L2N.takes_of rfl rfl rfl rfl) (XK.pmk_x (XK.mkGvP T.cInvalidNumber (hr.mono (by decide) : Room 1 _)) XK.hlOne T.cInvalidNumber.kC T.gInvalidNumber (T.rInvalidNumber.raises) (pa_cons (pv 1) pa_nil)))) pss_nil)
      (pss_cons (ps_expr (pe_call GCheckStands (hr.mono (by decide)) (by rfl) T.gCheckStands T.kCheckStands T.bCheckStands .nil (L2N.passes_call (L2N.takes_of rfl rfl rfl rfl) fun _ _ _ _ h => h) (pa_cons (pv 2) pa_nil)))
      (pss_cons (ps_expr (pe_call GCheckKeys (hr.mono (by decide)) (by rfl) T.gCheckKeys T.kCheckKeys T.bCheckKeys .nil (L2N.passes_call (L2N.takes_of rfl rfl rfl rfl) fun _ _ _ _ h => h) (pa_cons (pv 3) pa_nil)))
      (pss_cons (ps_expr (pe_call GCheckRows (hr.mono (by decide)) (by rfl) T.gCheckRows T.kCheckRows T.bCheckRows .nil (L2N.passes_call (L2N.takes_of rfl rfl rfl rfl) fun _ _ _ _ h => h) (pa_cons (pv 4) (pa_cons (pv 2) (pa_cons (pv 3) pa_nil)))))
      (pss_cons (ps_fld (pv 0) (pv 1) rfl)
      (pss_cons (ps_fld (pv 0) (pv 2) rfl)
      (pss_cons (ps_fld (pv 0) (pv 3) rfl)
      (pss_cons (ps_fld (pv 0) (pv 4) rfl)
      (pss_one (ps_fld (pv 0) (pe_call GHouseText (hr.mono (by decide)) (by rfl) T.tx.gHouseText T.tx.kHouseText T.tx.bHouseText .nil pass0 (pa_cons (pv 1) (pa_cons (pv 2) (pa_cons (pv 3) (pa_cons (pv 4) pa_nil))))) rfl))))))))))
, ?_⟩
    have up : ∀ {v : V} {d : PyData}, Da K (delH H x) v d → Da K H v d := fun h => h.ex delEx
    refine s_when (b := !betw dl 1 3) (et_not (et_test (ev_callB (ea_cons (ev_var (by rfl)) (ea_cons ev_c (ea_cons ev_c ea_nil))) fun H1 e1 => ⟨l, dl, 1, 3, rfl, (up hl).ex e1, rfl⟩))) (fun hb H1 e1 => ?_) fun hb H1 e1 => ?_
    · have hb' : betw dl 1 3 = false := by simpa using hb
      have e : houseFault b l dl ds dk dr = some (b.InvalidNumber, ("given" : Str), l) := by
        unfold houseFault
        rw [hb']
        rfl
      rw [e] at k
      exact s_raise (W := fun cls d _ H => E cls d H) (ea_cons (ev_var (by rfl)) ea_nil) rfl fun d H2 hd e2 h2 => k d H2 (fresh_back e1 hd) (e1.trans e2) h2
    · have hb' : betw dl 1 3 = true := by simpa using hb
      dsimp only [tNext, tSeq]
      refine ⟨_, rfl, ?_⟩
      refine ⟨standsFault ds, ⟨st, ds, rfl, (up hs).ex e1, rfl⟩, ?_⟩
      cases hsf : standsFault ds with
      | some v =>
        have e : houseFault b l dl ds dk dr = some (b.InvalidStands, ("index" : Str), v) := by
          unfold houseFault
          rw [hb', if_pos rfl, hsf]
        rw [e] at k
        exact fun d H2 hd e2 h2 => k d H2 (fresh_back e1 hd) (e1.trans e2) h2
      | none =>
        intro H2 e2
        dsimp only [tNext, tSeq]
        refine ⟨_, rfl, ?_⟩
        refine ⟨keysFault dk, ⟨ky, dk, rfl, (up hk).ex (e1.trans e2), rfl⟩, ?_⟩
        cases hkf : keysFault dk with
        | some v =>
          have e : houseFault b l dl ds dk dr = some (b.InvalidKeys, ("index" : Str), v) := by
            unfold houseFault
            rw [hb', if_pos rfl, hsf, hkf]
          rw [e] at k
          exact fun d H3 hd e3 h3 => k d H3 (fresh_back (e1.trans e2) hd) ((e1.trans e2).trans e3) h3
        | none =>
          intro H3 e3
          have e13 := (e1.trans e2).trans e3
          obtain ⟨ss, rfl, ss2, ss6, hss⟩ := stands_none hsf
          obtain ⟨ks, rfl, ks3, hks⟩ := keys_none hkf
          have kx : keysOf (.tuple (ks.map PyData.str)) = ks := by
            show (ks.map PyData.str).map strOf = ks
            rw [List.map_map]
            exact List.map_id _
          cases hs with
          | @tup r ys _ hq hxx =>
          cases hk with
          | @tup kk zs _ hkq hkx =>
          obtain ⟨rfl, ks0⟩ := daStrs hkx
          have hq' : SqT K H r ys := ex_t delEx hq
          have hkq' : SqT K H kk (ks.map V.str) := ex_t delEx hkq
          have hxx' : DaAll K H ys ss := hxx.ex delEx
          dsimp only [tNext, tSeq]
          refine ⟨_, rfl, _, rfl, _, rfl, ?_⟩
          refine ⟨rowsFault dr (ss.map wordOf) ks, ⟨rw', dr, r, ys, ss, kk, ks, rfl, (up hrw).ex e13, ex_t e13 hq', hxx'.ex e13, by omega, hss, ex_t e13 hkq', rfl⟩, ?_⟩
          cases hrf : rowsFault dr (ss.map wordOf) ks with
          | some v =>
            have e : houseFault b l dl (.tuple ss) (.tuple (ks.map PyData.str)) dr = some (b.InvalidRows, ("index" : Str), v) := by
              unfold houseFault
              rw [hb', if_pos rfl, hsf]
              dsimp only
              rw [hkf]
              dsimp only
              rw [kx]
              show (match rowsFault dr (ss.map wordOf) ks with | some v => _ | none => _) = _
              rw [hrf]
            rw [e] at k
            exact fun d H4 hd e4 h4 => k d H4 (fresh_back e13 hd) (e13.trans e4) h4
          | none =>
            intro H4 e4
            have e14 := e13.trans e4
            have e : houseFault b l dl (.tuple ss) (.tuple (ks.map PyData.str)) dr = none := by
              unfold houseFault
              rw [hb', if_pos rfl, hsf]
              dsimp only
              rw [hkf]
              dsimp only
              rw [kx]
              show (match rowsFault dr (ss.map wordOf) ks with | some v => _ | none => _) = _
              rw [hrf]
            rw [e] at k
            obtain ⟨rs, rfl, rs16, hrs⟩ := rows_none hrf
            have rx : keysOf (.tuple (rs.map PyData.str)) = rs := by
              show (rs.map PyData.str).map strOf = rs
              rw [List.map_map]
              exact List.map_id _
            cases hrw with
            | @tup q zr _ hrq hrx =>
            obtain ⟨rfl, rs0⟩ := daStrs hrx
            have hn : ∃ n : Int, dl = .int n ∧ 1 ≤ n ∧ n ≤ 3 := by
              cases dl <;> try (simp [betw] at hb')
              exact ⟨_, rfl, hb'.1, hb'.2⟩
            obtain ⟨n, rfl, n1, n3⟩ := hn
            cases hl
            have bt : ∀ {H5 : Hp} {g : HO}, Ex (delH H x) H5 → Ex (delH H x) (upd H5 x g) := fun {H5 g} e5 => Ex.mut e5 delH_same
            have x0 : H4 x = some (.ins o.House dx []) := e14 _ _ hx
            have b0 : Ex (delH H x) H4 := fun p u h => e14 p u (delEx p u h)
            dsimp only [tNext, tSeq]
            refine ⟨_, rfl, _, rfl, x, o.House, dx, [], rfl, x0, T.cl, T.n1, by decide, ?_⟩
            refine ⟨_, rfl, _, rfl, x, o.House, dx, _, rfl, upd_same, T.cl, T.n2, by show 1 < 1000; decide, ?_⟩
            refine ⟨_, rfl, _, rfl, x, o.House, dx, _, rfl, upd_same, T.cl, T.n3, by show 2 < 1000; decide, ?_⟩
            refine ⟨_, rfl, _, rfl, x, o.House, dx, _, rfl, upd_same, T.cl, T.n4, by show 3 < 1000; decide, ?_⟩
            rw [upd_upd, upd_upd, upd_upd]
            have b1 := bt (g := .ins o.House dx (putF "row_texts" (.ref q) (putF "key_names" (.ref kk) (putF "stand_pairs" (.ref r) (putF "line_count" (.int n) []))))) b0
            refine ⟨_, rfl, _, rfl, _, rfl, _, rfl, ?_⟩
            refine ⟨houseT n (ss.map pairOf) ks rs, ⟨n, r, ys, ss, kk, ks, q, rs, rfl, n1, n3, ex_t b1 hq, hxx.ex b1, hss, ss6, ex_t b1 hkq, ks3, fun z hz => word_len (hks z hz), ex_t b1 hrq, rs16, rs0, rfl⟩, fun H5 e5 => ?_⟩
            refine ⟨_, rfl, x, o.House, dx, _, rfl, e5 _ _ upd_same, T.cl, T.n5, by show 4 < 1000; decide, ?_⟩
            refine k _ (fun p u hp h => ?_) ?_
            · rw [upd_ne hp]
              refine e5 _ _ ?_
              rw [upd_ne hp]
              exact e14 _ _ h
            · rw [upd_same]
              unfold houseD
              rw [kx, rx]
              rfl
end
end L2.KC

set_option Elab.async false
set_option maxRecDepth 100000
set_option maxHeartbeats 4000000
set_option linter.all false
/-! House(..), and what its properties tell. -/
namespace L2.KC
open PySem PySem.Spec PyProof.Rows XK Evl
abbrev sHouseLines : Stmt := clsS 63 2
abbrev sHouseStands : Stmt := clsS 63 3
abbrev sHouseKeys : Stmt := clsS 63 4
abbrev sHouseRows : Stmt := clsS 63 5
theorem scHouseRows : FnScope ["self"] ["self"] (defScope sHouseRows) := ⟨rfl, rfl, rfl, by decide +kernel, rfl, by decide +kernel, by decide +kernel⟩
theorem scHouseStands : FnScope ["self"] ["self"] (defScope sHouseStands) := ⟨rfl, rfl, rfl, by decide +kernel, rfl, by decide +kernel, by decide +kernel⟩
theorem scHouseKeys : FnScope ["self"] ["self"] (defScope sHouseKeys) := ⟨rfl, rfl, rfl, by decide +kernel, rfl, by decide +kernel, by decide +kernel⟩
theorem scHouseLines : FnScope ["self"] ["self"] (defScope sHouseLines) := ⟨rfl, rfl, rfl, by decide +kernel, rfl, by decide +kernel, by decide +kernel⟩
section
variable {P : Program} {w : World} {K : PySem.W.Frag} {mg : Str → Option Value} {base : Heap} {a : AdrC} {b : AdrH} {o : AdrO}
theorem ok_getter {x qual f : Str} {st : Stmt} {g : Addr} {fd : FuncData} {C : Addr} {p1 p2 p3 : Pos} (F : Fun K x qual st g fd) (S : FnScope ["self"] ["self"] (defScope st))
    (hb : defBody st = [.Return (some (.Attribute (.Name "self" p1) f p2)) p3]) (c : Cls K C) (n : NoAttr K C f) : FnOk P w K mg base CX0 1 g fd ["self"] (getSp C f) := by
  obtain ⟨oc, od, kV, doc, pm, an, cdv, ct, osl, rfl, lk, hcd⟩ := F.ex
  exact fn_getter lk hcd S rfl hb c n
theorem ok_rows (T : TxtO K mg a b o) {g : Addr} {fd : FuncData} (F : Fun K "rows" "House.rows" sHouseRows g fd) : FnOk P w K mg base CX0 1 g fd ["self"] (getSp o.House "row_texts") :=
  ok_getter F scHouseRows (by rfl) T.cl T.n4
theorem ok_stands (T : TxtO K mg a b o) {g : Addr} {fd : FuncData} (F : Fun K "stands" "House.stands" sHouseStands g fd) : FnOk P w K mg base CX0 1 g fd ["self"] (getSp o.House "stand_pairs") :=
  ok_getter F scHouseStands (by rfl) T.cl T.n2
theorem ok_keyWords (T : TxtO K mg a b o) {g : Addr} {fd : FuncData} (F : Fun K "key_words" "House.key_words" sHouseKeys g fd) : FnOk P w K mg base CX0 1 g fd ["self"] (getSp o.House "key_names") :=
  ok_getter F scHouseKeys (by rfl) T.cl T.n3
theorem ok_lines (T : TxtO K mg a b o) {g : Addr} {fd : FuncData} (F : Fun K "lines" "House.lines" sHouseLines g fd) : FnOk P w K mg base CX0 1 g fd ["self"] (getSp o.House "line_count") :=
  ok_getter F scHouseLines (by rfl) T.cl T.n1
/-- what House(..) with these values does -/
def Made (K : PySem.W.Frag) (b : AdrH) (C : Addr) (l st ky rw : V) (dl ds dk dr : PyData) (H : Hp) (Q : VK) (E : XK) : Prop :=
  match houseFault b l dl ds dk dr with
  | some (c, f, v) => ∀ d H', H d = none → Ex H H' → H' d = some (.xd [(f, v)]) → E (.ref c) (some d) H'
  | none => ∀ x dx H', H x = none → Ex H H' → H' x = some (.ins C dx (fieldsOf l st ky rw (houseD dl ds dk dr))) → Q (.ref x) H'
theorem make_house {C : Addr} {H : Hp} {l st ky rw : V} {dl ds dk dr : PyData} {Q : VK} {E : XK} (hl : Da K H l dl) (hs : Da K H st ds) (hk : Da K H ky dk) (hr : Da K H rw dr) (m : Made K b C l st ky rw dl ds dk dr H Q E) :
    ∀ x dx, H x = none → H dx = none → dx ≠ x → spInit K b C [.ref x, l, st, ky, rw] (upd (upd H dx (.own x)) x (.ins C dx [])) (fun v H2 => v = .non ∧ Q (.ref x) H2) E := by
  intro x dx nx ndx hne
  have e1 : Ex H (upd (upd H dx (.own x)) x (.ins C dx [])) := (Ex.new ndx).trans (Ex.new (by rw [upd_ne (Ne.symm hne)]; exact nx))
  have e2 : Ex H (delH (upd (upd H dx (.own x)) x (.ins C dx [])) x) := fun p u h => by
    have hp : p ≠ x := fun z => by
      rw [z, nx] at h
      cases h
    rw [delH_ne hp]
    exact e1 p u h
  refine ⟨x, dx, l, st, ky, rw, dl, ds, dk, dr, rfl, upd_same, hl.ex e2, hs.ex e2, hk.ex e2, hr.ex e2, ?_⟩
  unfold Made at m
  cases hf : houseFault b l dl ds dk dr with
  | some q =>
    obtain ⟨c, f, v⟩ := q
    rw [hf] at m
    exact fun d H' hd e h => m d H' (fresh_back e1 hd) (e1.trans e) h
  | none =>
    rw [hf] at m
    intro H' bt hx
    refine ⟨rfl, m x dx H' nx (fun p u h => ?_) hx⟩
    have hp : p ≠ x := fun z => by
      rw [z, nx] at h
      cases h
    exact bt p u hp (e1 p u h)
end
end L2.KC

set_option Elab.async false
set_option maxRecDepth 100000
set_option maxHeartbeats 4000000
set_option linter.all false
/-! What repr tells of a value. -/
namespace L2.XK
open PySem PySem.Spec PyProof.Rows XC Evl
/-- t is the repr of v -/
inductive RepV (K : PySem.W.Frag) (H : Hp) : V → Str → Prop
  | ref {a : Addr} {d : PyData} (h : Dx K H (.ref a) d) (w : d.showable = true) (l : d.shown.length ≤ 100000) (p : d.depth ≤ 100) : RepV K H (.ref a) d.shown
  | int {i : Int} (h : i.natAbs.log2 < 1920) : RepV K H (.int i) (toString i)
  | non : RepV K H .non (PyData.none).shown
  | bl (b : Bool) : RepV K H (.bl b) (PyData.bool b).shown
  | str {x : Str} (l : (PyData.str x).shown.length ≤ 100000) : RepV K H (.str x) (PyData.str x).shown
theorem RepV.ex {K : PySem.W.Frag} {H H' : Hp} {v : V} {t : Str} (e : Ex H H') (h : RepV K H v t) : RepV K H' v t := by
  cases h with
  | ref h w l p => exact .ref (h.same e) w l p
  | int h => exact .int h
  | non => exact .non
  | bl b => exact .bl b
  | str l => exact .str l
def rRepr (K : PySem.W.Frag) : List V → Hp → VK → Prop := fun xs H Q => ∃ v t, xs = [v] ∧ RepV K H v t ∧ Q (.str t) H
theorem call_rep {X : Cx} (hs : Sys X.base) (hg : X.A.guards = some []) (hu : X.A.units + 200 < cLine) : CallR X (.builtin "repr") (rRepr X.K) := by
  intro pins s σ H xs us Q I r h
  obtain ⟨v, t, rfl, hv, q⟩ := h
  cases hv with
  | ref h w l p => exact call_reprD hs hg hu pins s σ H _ us Q I r ⟨_, _, rfl, h, w, sz_of l, p, q⟩
  | int h => exact SkE.call_repr_int pins s σ H _ us Q I r ⟨_, rfl, h, q⟩
  | non =>
    obtain ⟨u, rfl, ru⟩ := vals1 r
    cases ru
    exact PySem.P.repr_of_none ⟨.str _, H, I.tok _, ⟨_, rfl⟩, q⟩
  | bl b =>
    obtain ⟨u, rfl, ru⟩ := vals1 r
    cases ru
    exact PySem.P.repr_of_bool ⟨.str _, H, I.tok _, ⟨_, rfl⟩, q⟩
  | str l =>
    obtain ⟨u, rfl, t, rfl⟩ := vals1 r
    exact PySem.P.repr_of_str ⟨.str _, H, I.tok _, ⟨_, rfl⟩, q⟩ (sz_of l)
theorem ev_rep {K : PySem.W.Frag} {σ : L2.St} {H : Hp} {ta : TE} {v : V} {t : Str} (ha : Ev ta σ H v) (h : RepV K H v t) : Ev (tCB (rRepr K) (tCons ta tNil)) σ H (.str t) := fun H1 e Q q =>
  ha H1 e _ fun H2 e2 => ⟨v, t, rfl, h.ex (e.trans e2), q H2 e2⟩
end L2.XK

set_option Elab.async false
set_option maxRecDepth 100000
set_option maxHeartbeats 400000
set_option linter.all false
/-! len(x) of an own instance whose class has a __len__. -/
namespace L2.XK
open PySem PySem.Spec PyProof.Rows XC Evl
section
variable {prog : Program} {w : World} {A : Around} {E : Value → Shared → Prop} {s : Shared} {K : PySem.W.Frag} {x C f : Addr} {ox : Obj} {od : Option Obj} {Q : Value → Shared → Prop}
theorem len_ownK (X : K.In s.heap) (I : PySem.W.InstAt s.heap x ox C od) (hs : PySem.W.findIn K (.ref C) "__len__" = some (some (.ref f))) (hf : PySem.W.isFn K (.ref f) = true)
    (h : wpAny (model prog w) A.in1 (call (.ref f) [.ref x]) (fun r s' => ∃ n u, r = Value.int n u ∧ 0 ≤ n ∧ n < 2 ^ 63 ∧ Q (.int n s'.toks) { s' with toks := s'.toks + 1 }) E s) :
    wpAny (model prog w) A (call (.builtin "len") [.ref x]) Q E s := by
  refine Calls.call_function_entry kind_len plain_len entry_len (args_len1 (.ref x)) ?_
  refine wpAny_bind (wpAny_pure (wpAny_bind (PySem.W.special_fn X I hs (beq_iff_eq.mp hf) (wpAny_mono h (fun r s' hr => ?_) fun _ _ y => y))))
  obtain ⟨n, u, rfl, h0, h1, q⟩ := hr
  refine wpAny_bind (wpAny_holding (wpAny_pure (wpAny_bind (wpAny_letGo ?_))))
  show wpAny _ _ (if n < 0 then _ else _) _ _ _
  rw [if_neg (by omega)]
  show wpAny _ _ (if n ≥ 2 ^ 63 then _ else _) _ _ _
  rw [if_neg (by omega)]
  exact wpAny_bind (wpAny_mkInt (wpAny_pure ⟨_, rfl, q⟩))
end
def rLenOwn (C : Addr) (sp : Sp) : List V → Hp → VK → Prop := fun xs H Q => ∃ x dx fs, xs = [.ref x] ∧ H x = some (.ins C dx fs) ∧ sp [.ref x] H (fun v H' => ∃ n : Int, v = .int n ∧ 0 ≤ n ∧ n < 2 ^ 63 ∧ Q (.int n) H') E0
theorem call_lenOwn {X : Cx} {k : Nat} {C g : Addr} {fd : FuncData} {sp : Sp} (hs : PySem.W.findIn X.K (.ref C) "__len__" = some (some (.ref g))) (hf : PySem.W.isFn X.K (.ref g) = true)
    (F : FnOk X.prog X.w X.K X.mg X.base CX0 k g fd ["self"] sp) (hb : Binds X.K fd ["self"] []) (hr : Room (k + 1) X.A) : CallR X (.builtin "len") (rLenOwn C sp) := by
  intro pins s σ H xs us Q I r h
  obtain ⟨x, dx, fs, rfl, hx, q⟩ := h
  obtain ⟨u, rfl, ru⟩ := vals1 r
  cases ru
  obtain ⟨od, hin, _⟩ : ∃ od, PySem.W.InstAt s.heap x (PySem.W.instObj C dx) C (some od) ∧ True := by
    obtain ⟨_, _, h1, h2, mA, h3, _⟩ := I.hok x _ hx
    obtain ⟨od, h, _⟩ := ObjM.look (mA := mA) ⟨h2, h3, h1⟩
    exact ⟨od, h, trivial⟩
  refine len_ownK I.kIn hin hs hf ?_
  have hbb := hb s [.ref x] I.kIn rfl
  rw [List.append_nil] at hbb
  refine wpAny_call (codeAny_mono (F.run X.A.in1 X.stack s H ⟨[.ref x], []⟩ [.ref x] [.ref x] _ E0 hr.in1 I.env0.in1 hbb (.cons rfl .nil) q) fun r s' hq => ?_)
  cases r with
  | error e => exact (show False from hq).elim
  | ok fl =>
    cases fl with
    | ret u =>
      obtain ⟨v, H', I', rv, n, rfl, h0, h1, q'⟩ := I.after hq
      obtain ⟨t, rfl⟩ := rv
      exact ⟨n, t, rfl, h0, h1, .int n, H', I'.tok _, ⟨_, rfl⟩, q'⟩
    | next => exact hq.elim
    | brk => exact hq.elim
    | cont => exact hq.elim
end L2.XK

set_option Elab.async false
set_option maxRecDepth 100000
set_option maxHeartbeats 400000
set_option linter.all false
/-! x == y, str(x), repr(x) of an own instance by its own methods. -/
namespace L2.XK
open PySem PySem.Spec PyProof.Rows XC Evl
section
variable {X : Cx} {pins : List (Addr × Obj)} {σ : L2.St} {H : Hp} {s : Shared}
theorem ins_fr (I : L2.Inv X pins σ H s) {x C dx : Addr} {fs : List (Str × V)} (hx : H x = some (.ins C dx fs)) :
    ∃ od, PySem.W.InstAt s.heap x (PySem.W.instObj C dx) C (some od) := by
  obtain ⟨how, _, h1, h2, mA, h3, _⟩ := I.hok x _ hx
  obtain ⟨od, h, _⟩ := ObjM.look (mA := mA) ⟨h2, h3, h1⟩
  exact ⟨od, h⟩
/-- the type of what stands on the right -/
inductive YTy (K : PySem.W.Frag) (C : Addr) (H : Hp) : V → Prop
  | ins {b C' dy : Addr} {gs : List (Str × V)} (h : H b = some (.ins C' dy gs)) (n : PySem.W.notFirst K C (.ref C') = true) : YTy K C H (.ref b)
  | str (z : Str) (n : PySem.W.notFirst K C (.type "str") = true) : YTy K C H (.str z)
  | tup {b : Addr} {ys : List V} (h : SqT K H b ys) (n : PySem.W.notFirst K C (.type "tuple") = true) : YTy K C H (.ref b)
def rEqOwn (K : PySem.W.Frag) (C : Addr) (sp : Sp) : R2 := fun x y H Q => ∃ a dx fs, x = .ref a ∧ H a = some (.ins C dx fs) ∧ YTy K C H y ∧ sp [x, y] H (fun v H' => ∃ b, v = .bl b ∧ Q (.bl b) H') E0
theorem run2 {k : Nat} {g : Addr} {fd : FuncData} {ps : List Str} {sp : Sp} {A : Around} {us : List Value} {ws : List V} {Q : VK} (F : FnOk X.prog X.w X.K X.mg X.base CX0 k g fd ps sp) (hb : Binds X.K fd ps []) (hr : Room k A) (I : L2.Inv X pins σ H s)
    (he : Env0 X.prog X.w X.K X.mg X.base A X.stack s H) (r : Vals ws us) (q : sp ws H Q E0) {Q' : Value → Shared → Prop} (k' : ∀ u s', EP X pins σ Q u s' → Q' u s') : wpAny (model X.prog X.w) A (call (.ref g) us) Q' X.xe s := by
  have hl : us.length = ps.length := by
    rw [← r.length]
    exact F.len _ _ _ _ q
  have hbb := hb s us I.kIn (by rw [List.append_nil]; exact hl)
  rw [List.append_nil] at hbb
  refine wpAny_call (codeAny_mono (F.run A X.stack s H ⟨us, []⟩ us ws Q E0 hr he hbb r q) fun r s' hq => ?_)
  cases r with
  | error e => exact (show False from hq).elim
  | ok fl =>
    cases fl with
    | ret u => exact k' u s' (I.after hq)
    | next => exact hq.elim
    | brk => exact hq.elim
    | cont => exact hq.elim
end
section
variable {X : Cx} {k : Nat} {C g : Addr} {fd : FuncData} {sp : Sp}
theorem op_eqOwn (hs : PySem.W.findIn X.K (.ref C) "__eq__" = some (some (.ref g))) (hf : PySem.W.isFn X.K (.ref g) = true) (F : FnOk X.prog X.w X.K X.mg X.base CX0 k g fd ["self", "other"] sp) (hb : Binds X.K fd ["self", "other"] []) (hr : Room k X.A) : OpR X (compareOp .Eq) (rEqOwn X.K C sp) := by
  intro pins s σ H x y v u Q I rx ry h
  obtain ⟨a, dx, fs, rfl, hx, hy, q⟩ := h
  cases rx
  obtain ⟨od, hin⟩ := ins_fr I hx
  obtain ⟨m, fr⟩ := I.fr
  have kb := I.ok.mod.kin
  show wpAny _ _ (richCompare .Eq (.ref a) u) _ _ _
  have ty : ∃ tb, PySem.W.Looks (model X.prog X.w) s.heap (typeOf u) tb ∧ PySem.W.notFirst X.K C tb = true := by
    cases hy with
    | ins h n =>
      cases ry
      obtain ⟨_, hj⟩ := ins_fr I h
      exact ⟨_, hj.type, n⟩
    | str z n =>
      obtain ⟨t, rfl⟩ := ry
      exact ⟨_, PySem.W.Looks.of_pure rfl, n⟩
    | tup h n =>
      cases ry
      obtain ⟨its, r1, p1, _⟩ := I.tuple h
      refine ⟨_, fun A Q E s' hk hq => ?_, n⟩
      obtain ⟨os, hos, hc⟩ := p1.typeIs
      exact wpAny_typeOf ⟨os, hk _ _ hos, hc⟩ hq
  obtain ⟨tb, lk, nf⟩ := ty
  refine PySem.W.cmp_K (by have := hr.units; omega) fr kb hin lk nf hs hf (run2 F hb hr I I.env0 (.cons (F := RelV) (a := .ref a) (b := .ref a) rfl (.cons ry .nil)) q fun u' s' e => ?_)
  obtain ⟨w, H', I', rv, b, rfl, q'⟩ := e
  have rv' : u' = .bool b := rv
  subst rv'
  exact ⟨.bl b, H', I', rfl, q'⟩
def rStrOwn (C : Addr) (sp : Sp) : List V → Hp → VK → Prop := fun xs H Q => ∃ x dx fs, xs = [.ref x] ∧ H x = some (.ins C dx fs) ∧ sp [.ref x] H (fun v H' => ∃ z, v = .str z ∧ Q (.str z) H') E0
theorem call_strOwn (hs : PySem.W.findIn X.K (.ref C) "__str__" = some (some (.ref g))) (hf : PySem.W.isFn X.K (.ref g) = true) (F : FnOk X.prog X.w X.K X.mg X.base CX0 k g fd ["self"] sp) (hb : Binds X.K fd ["self"] []) (hr : Room (k + 2) X.A) : CallR X (.type "str") (rStrOwn C sp) := by
  intro pins s σ H xs us Q I r h
  obtain ⟨x, dx, fs, rfl, hx, q⟩ := h
  obtain ⟨u, rfl, ru⟩ := vals1 r
  cases ru
  obtain ⟨od, hin⟩ := ins_fr I hx
  obtain ⟨m, fr⟩ := I.fr
  have kb := I.ok.mod.kin
  refine PySem.W.kso_call (by have := hr.in1.in1.units; omega) I.kIn hin hs hf (run2 F hb hr.in1.in1 I I.env0.in1.in1 (.cons (F := RelV) (a := .ref x) (b := .ref x) rfl .nil) q fun u' s' e => ?_)
  obtain ⟨w, H', I', rv, z, rfl, q'⟩ := e
  obtain ⟨t, rfl⟩ := rv
  exact ⟨.str z, H', I', ⟨t, rfl⟩, q'⟩
theorem call_reprOwn (hs : PySem.W.findIn X.K (.ref C) "__repr__" = some (some (.ref g))) (hf : PySem.W.isFn X.K (.ref g) = true) (F : FnOk X.prog X.w X.K X.mg X.base CX0 k g fd ["self"] sp) (hb : Binds X.K fd ["self"] []) (hr : Room (k + 1) X.A) : CallR X (.builtin "repr") (rStrOwn C sp) := by
  intro pins s σ H xs us Q I r h
  obtain ⟨x, dx, fs, rfl, hx, q⟩ := h
  obtain ⟨u, rfl, ru⟩ := vals1 r
  cases ru
  obtain ⟨od, hin⟩ := ins_fr I hx
  obtain ⟨m, fr⟩ := I.fr
  have kb := I.ok.mod.kin
  refine PySem.W.repr_K (by have := hr.in1.units; omega) fr kb hin hs hf (run2 F hb hr.in1 I I.env0.in1 (.cons (F := RelV) (a := .ref x) (b := .ref x) rfl .nil) q fun u' s' e => ?_)
  obtain ⟨w, H', I', rv, z, rfl, q'⟩ := e
  obtain ⟨t, rfl⟩ := rv
  exact ⟨.str z, H', I', ⟨t, rfl⟩, q'⟩
end
end L2.XK

set_option Elab.async false
set_option maxRecDepth 100000
set_option maxHeartbeats 400000
set_option linter.all false
/-! x != y, bool(x) of an own instance by its own __eq__, __bool__. -/
namespace L2.XK
open PySem PySem.Spec PyProof.Rows XC Evl
section
variable {prog : Program} {w : World} {A : Around} {E : Value → Shared → Prop} {s : Shared} {K : PySem.W.Frag} {x C L f : Addr} {h₀ : Heap} {m : Str → Option Value} {ox : Obj} {od : Option Obj} {name : Str} {b tb : Value}
theorem ifBound_blt {M : Model} {args : List Value} {id : String} {Q : Option Value → Shared → Prop} (X : K.In s.heap) (I : PySem.W.InstAt s.heap x ox C od) (hs : PySem.W.findIn K (.ref C) name = some (some (.builtin id)))
    (hb : ∀ self, bindSpecial (.builtin id) self = pure (.builtin id, [self])) (h : wpAny M A (call (.builtin id) (.ref x :: args)) (fun v => Q (some v)) E s) : wpAny M A (callSpecialIfBound? (.ref x) name args) Q E s := by
  simp only [callSpecialIfBound?, bindSpecialIfBound?]
  refine wpAny_holding (wpAny_bind (wpAny_bind (wpAny_bind (I.type.here ((PySem.W.looks_findIn X hs).here ?_)))))
  simp only [hb]
  refine wpAny_bind (wpAny_askSetting (wpAny_ite ?_))
  have fin : wpAny M A (call (.builtin id) ([.ref x] ++ args) >>= fun v => pure (some v)) Q E s := wpAny_bind (wpAny_mono h (fun v s' h' => wpAny_pure h') fun _ _ h' => h')
  split
  · exact wpAny_bind (wpAny_pure (wpAny_pure fin))
  · exact wpAny_tryCatch (wpAny_bind (wpAny_pure (wpAny_pure fin)))
/-- what __eq__ gives, turned -/
def NeBack (Q : Value → Shared → Prop) (v : Value) (s' : Shared) : Prop := match v with
  | .bool t => Q (.bool (!t)) s'
  | _ => False
theorem objNe_call {Q : Value → Shared → Prop} (hu : A.in1.units < cLine) (X : K.In s.heap) (I : PySem.W.InstAt s.heap x ox C od) (hm : PySem.W.mroIn K C (.type "object") = some true)
    (hs : PySem.W.findIn K (.ref C) "__eq__" = some (some (.ref f))) (hf : PySem.W.isFn K (.ref f) = true) (h : ∀ E', wpAny (model prog w) A.in1 (call (.ref f) [.ref x, b]) (NeBack Q) E' s) :
    wpAny (model prog w) A (call (.builtin "object.__ne__") [.ref x, b]) Q E s := by
  have sub : PySem.W.Looks (model prog w) s.heap (isInstance (.ref x) (.type "object")) true := I.type.andThen (PySem.W.looks_mroIn X hm)
  refine wpAny_call (codeAny_call_builtin PySem.F.cmp_object.ne.plain PySem.F.cmpEntry_ne (PySem.W.check_slot PySem.F.cmpKind_ne PySem.F.cmpSplit_ne sub (PySem.F.cmpArgs_ne _ _) ?_))
  unfold Builtin.«object.__ne__»
  refine wpAny_bind (wpAny_pure ?_)
  dsimp only
  refine wpAny_bind (wpAny_cRoomFor hu ?_)
  refine wpAny_bind (PySem.W.ifBound_K X I hs hf (wpAny_mono (h _) (fun v s' hv => ?_) fun _ _ e => e))
  cases v <;> first | exact hv.elim | skip
  rename_i t
  refine wpAny_bind ?_
  unfold truthy
  exact wpAny_pure (wpAny_pure hv)
theorem ne_K {Q : Value → Shared → Prop} (hu : A.in1.units < cLine) (F : Fr h₀ L s.heap m) (X₀ : K.In h₀) (I : PySem.W.InstAt s.heap x ox C od) (hb : PySem.W.Looks (model prog w) s.heap (typeOf b) tb) (hn : PySem.W.notFirst K C tb = true)
    (hne : PySem.W.findIn K (.ref C) "__ne__" = some (some (.builtin "object.__ne__"))) (hm : PySem.W.mroIn K C (.type "object") = some true)
    (hs : PySem.W.findIn K (.ref C) "__eq__" = some (some (.ref f))) (hf : PySem.W.isFn K (.ref f) = true) (hq : ∀ s', Q .notImplemented s' → False)
    (h : ∀ E', wpAny (model prog w) A.in1 (call (.ref f) [.ref x, b]) (NeBack Q) E' s) : wpAny (model prog w) A (richCompare .NotEq (.ref x) b) Q E s := by
  have X := X₀.keeps F.keep
  have hu0 : A.units < cLine := Nat.lt_of_le_of_lt (Nat.le_succ _) hu
  have one : wpAny (model prog w) A (tryCompare (.ref x) (cmpInfo .NotEq).2.1 b) (fun r s' => ∃ v, r = some v ∧ Q v s') E s := by
    unfold tryCompare
    refine wpAny_bind (ifBound_blt (id := "object.__ne__") X I hne PySem.F.cmp_object.ne.bind (wpAny_mono (objNe_call hu X I hm hs hf h) (fun v s' hv => ?_) fun _ _ e => e))
    cases v <;> first | exact (hq _ hv).elim | exact wpAny_pure ⟨_, rfl, hv⟩
  unfold richCompare
  simp only [oneThing_ref]
  refine wpAny_holding (wpAny_bind (wpAny_cRoomFor hu0 ?_))
  refine wpAny_bind (I.type.here (wpAny_bind (hb.here ?_)))
  split
  · rename_i q
    have e : PySem.W.subIn K tb (.ref C) = some false := by
      rcases Bool.or_eq_true_iff.mp hn with e | e
      · rw [beq_iff_eq.mp e] at q; simp at q
      · exact beq_iff_eq.mp e
    refine wpAny_bind ((PySem.W.looks_subIn X e).here ?_)
    simp only [Bool.false_eq_true, if_false]
    refine wpAny_bind (wpAny_mono one (fun r s' z => ?_) fun _ _ e => e)
    obtain ⟨v, rfl, hq⟩ := z
    exact wpAny_pure hq
  · refine wpAny_bind (wpAny_pure ?_)
    simp only [Bool.false_eq_true, if_false]
    refine wpAny_bind (wpAny_mono one (fun r s' z => ?_) fun _ _ e => e)
    obtain ⟨v, rfl, hq⟩ := z
    exact wpAny_pure hq
end
section
variable {X : Cx} {pins : List (Addr × Obj)} {σ : L2.St} {H : Hp} {s : Shared}
theorem run2E {k : Nat} {g : Addr} {fd : FuncData} {ps : List Str} {sp : Sp} {A : Around} {us : List Value} {ws : List V} {Q : VK} {E' : Value → Shared → Prop} (F : FnOk X.prog X.w X.K X.mg X.base CX0 k g fd ps sp) (hb : Binds X.K fd ps []) (hr : Room k A) (I : L2.Inv X pins σ H s)
    (he : Env0 X.prog X.w X.K X.mg X.base A X.stack s H) (r : Vals ws us) (q : sp ws H Q E0) {Q' : Value → Shared → Prop} (k' : ∀ u s', EP X pins σ Q u s' → Q' u s') : wpAny (model X.prog X.w) A (call (.ref g) us) Q' E' s := by
  have hl : us.length = ps.length := by
    rw [← r.length]
    exact F.len _ _ _ _ q
  have hbb := hb s us I.kIn (by rw [List.append_nil]; exact hl)
  rw [List.append_nil] at hbb
  refine wpAny_call (codeAny_mono (F.run A X.stack s H ⟨us, []⟩ us ws Q E0 hr he hbb r q) fun r s' hq => ?_)
  cases r with
  | error e => exact (show False from hq).elim
  | ok fl =>
    cases fl with
    | ret u => exact k' u s' (I.after hq)
    | next => exact hq.elim
    | brk => exact hq.elim
    | cont => exact hq.elim
theorem yty_looks {K : PySem.W.Frag} {C : Addr} {y : V} {u : Value} (hK : K = X.K) (I : L2.Inv X pins σ H s) (ry : RelV y u) (hy : YTy K C H y) : ∃ tb, PySem.W.Looks (model X.prog X.w) s.heap (typeOf u) tb ∧ PySem.W.notFirst K C tb = true := by
  subst hK
  cases hy with
  | ins h n =>
    cases ry
    obtain ⟨_, hj⟩ := ins_fr I h
    exact ⟨_, hj.type, n⟩
  | str z n =>
    obtain ⟨t, rfl⟩ := ry
    exact ⟨_, PySem.W.Looks.of_pure rfl, n⟩
  | tup h n =>
    cases ry
    obtain ⟨its, r1, p1, _⟩ := I.tuple h
    refine ⟨_, fun A Q E s' hk hq => ?_, n⟩
    obtain ⟨os, hos, hc⟩ := p1.typeIs
    exact wpAny_typeOf ⟨os, hk _ _ hos, hc⟩ hq
end
def rNeOwn (K : PySem.W.Frag) (C : Addr) (sp : Sp) : R2 := fun x y H Q => ∃ a dx fs, x = .ref a ∧ H a = some (.ins C dx fs) ∧ YTy K C H y ∧ sp [x, y] H (fun v H' => ∃ b, v = .bl b ∧ Q (.bl (!b)) H') E0
section
variable {X : Cx} {k : Nat} {C g : Addr} {fd : FuncData} {sp : Sp}
theorem op_neOwn (hne : PySem.W.findIn X.K (.ref C) "__ne__" = some (some (.builtin "object.__ne__"))) (hm : PySem.W.mroIn X.K C (.type "object") = some true) (hs : PySem.W.findIn X.K (.ref C) "__eq__" = some (some (.ref g))) (hf : PySem.W.isFn X.K (.ref g) = true)
    (F : FnOk X.prog X.w X.K X.mg X.base CX0 k g fd ["self", "other"] sp) (hb : Binds X.K fd ["self", "other"] []) (hr : Room (k + 1) X.A) : OpR X (compareOp .NotEq) (rNeOwn X.K C sp) := by
  intro pins s σ H x y v u Q I rx ry h
  obtain ⟨a, dx, fs, rfl, hx, hy, q⟩ := h
  cases rx
  obtain ⟨od, hin⟩ := ins_fr I hx
  obtain ⟨m, fr⟩ := I.fr
  have kb := I.ok.mod.kin
  show wpAny _ _ (richCompare .NotEq (.ref a) u) _ _ _
  obtain ⟨tb, lk, nf⟩ := yty_looks rfl I ry hy
  refine ne_K (f := g) (by have := hr.in1.units; omega) fr kb hin lk nf hne hm hs hf (fun s' z => ?_) fun E' => run2E F hb hr.in1 I I.env0.in1 (.cons (F := RelV) (a := .ref a) (b := .ref a) rfl (.cons ry .nil)) q fun u' s' e => ?_
  · obtain ⟨w, H', I', rv, _⟩ := z
    cases w <;> first | (obtain ⟨_, rv⟩ := rv; cases rv; done) | (cases rv; done) | exact rv.elim
  · obtain ⟨w, H', I', rv, b, rfl, q'⟩ := e
    have rv' : u' = .bool b := rv
    subst rv'
    exact ⟨.bl (!b), H', I', rfl, q'⟩
end
end L2.XK
namespace L2.XK
open PySem PySem.Spec PyProof.Rows XC Evl
section
variable {prog : Program} {w : World} {A : Around} {E : Value → Shared → Prop} {s : Shared} {K : PySem.W.Frag} {x C L f : Addr} {h₀ : Heap} {m : Str → Option Value} {ox : Obj} {od : Option Obj}
theorem kbo_call {Q : Value → Shared → Prop} (F : Fr h₀ L s.heap m) (X₀ : K.In h₀) (I : PySem.W.InstAt s.heap x ox C od) (hs : PySem.W.findIn K (.ref C) "__bool__" = some (some (.ref f))) (hf : PySem.W.isFn K (.ref f) = true)
    (h : ∀ E', wpAny (model prog w) A.in1.in1 (call (.ref f) [.ref x]) (fun v s' => ∃ t, v = .bool t ∧ Q (.bool t) s') E' s) : wpAny (model prog w) A (call (.type "bool") [.ref x]) Q E s := by
  refine callType_codes (T := "bool") (Bi := Builtin.«object.__init__») (Q₁ := fun r s₁ => ∃ b, r = .bool b ∧ Q r s₁) PySem.F.called_bool (PySem.F.typeCall_bool_1 _) PySem.F.entry_object_init ?_ ?_
  · refine codeAny_of_tree ?_
    show wpAny _ A.in1.in1 (do checkBuiltinCall "bool.__new__" ⟨[.type "bool", .ref x], []⟩; again (.builtin "bool.__new__" ⟨[.type "bool", .ref x], []⟩)) _ _ s
    refine wpAny_bind (wpAny_of_eq (PySem.F.newCall_bool_1 _) (wpAny_pure ⟨plainId_quiet (by decide +kernel) _, codeAny_builtin PySem.F.entry_bool_new ?_⟩))
    rw [Around.under_plainId (by decide +kernel) _]
    unfold Builtin.«bool.__new__»
    have f1 := PySem.F.conv_sub_bool
    have key := fun E' => PySem.W.truthy_K (Q := fun b s₁ => Q (.bool b) s₁) F X₀ I hs hf (wpAny_mono (h E') (fun v s' hv => by
      obtain ⟨t, rfl, q⟩ := hv
      exact q) fun _ _ e => e)
    repeat (any_goals (first | assumption | (with_reducible refine wpAny_bind (wpAny_mono (key _) (fun b s' hb => ?_) fun _ _ e => e)) | wp_step))
    all_goals first | exact ⟨_, rfl, hb⟩ | skip
  · rintro obj s₁ ⟨b, rfl, hq⟩
    exact ⟨rfl, PySem.F.args_object_init_2 _ _, object_init_meets PySem.F.called_bool.init.lookup PySem.F.called_bool.made (by decide) prog w A.in1 _ s₁ ⟨rfl, rfl, hq⟩⟩
end
def rBoolOwn (C : Addr) (sp : Sp) : List V → Hp → VK → Prop := fun xs H Q => ∃ x dx fs, xs = [.ref x] ∧ H x = some (.ins C dx fs) ∧ sp [.ref x] H (fun v H' => ∃ b, v = .bl b ∧ Q (.bl b) H') E0
section
variable {X : Cx} {k : Nat} {C g : Addr} {fd : FuncData} {sp : Sp}
theorem call_boolOwn (hs : PySem.W.findIn X.K (.ref C) "__bool__" = some (some (.ref g))) (hf : PySem.W.isFn X.K (.ref g) = true) (F : FnOk X.prog X.w X.K X.mg X.base CX0 k g fd ["self"] sp) (hb : Binds X.K fd ["self"] []) (hr : Room (k + 2) X.A) : CallR X (.type "bool") (rBoolOwn C sp) := by
  intro pins s σ H xs us Q I r h
  obtain ⟨x, dx, fs, rfl, hx, q⟩ := h
  obtain ⟨u, rfl, ru⟩ := vals1 r
  cases ru
  obtain ⟨od, hin⟩ := ins_fr I hx
  obtain ⟨m, fr⟩ := I.fr
  refine kbo_call (f := g) fr I.ok.mod.kin hin hs hf fun E' => run2E F hb hr.in1.in1 I I.env0.in1.in1 (.cons (F := RelV) (a := .ref x) (b := .ref x) rfl .nil) q fun u' s' e => ?_
  obtain ⟨w, H', I', rv, b, rfl, q'⟩ := e
  exact ⟨b, rv, .bl b, H', I', rfl, q'⟩
end
end L2.XK

set_option Elab.async false
set_option maxRecDepth 100000
set_option maxHeartbeats 400000
set_option linter.all false
/-! x in o, o[k], o[k] = v of an own instance by its own methods, exceptions let through; ==, != of an own instance without an __eq__. -/
namespace L2.XK
open PySem PySem.Spec PyProof.Rows XC Evl
section
variable {X : Cx} {pins : List (Addr × Obj)} {σ : L2.St} {H : Hp} {s : Shared}
theorem runX {CX : CXT} {k : Nat} {g : Addr} {fd : FuncData} {ps : List Str} {sp : Sp} {A : Around} {us : List Value} {ws : List V} {Q : VK} {E : XK}
    (F : FnOk X.prog X.w X.K X.mg X.base CX k g fd ps sp) (hb : Binds X.K fd ps []) (hr : Room k A) (I : L2.Inv X pins σ H s) (he : Env0 X.prog X.w X.K X.mg X.base A X.stack s H)
    (hx : Passes CX X E) (r : Vals ws us) (q : sp ws H Q E) {Q' : Value → Shared → Prop} (k' : ∀ u s', EP X pins σ Q u s' → Q' u s') : wpAny (model X.prog X.w) A (call (.ref g) us) Q' X.xe s := by
  have hl : us.length = ps.length := r.length.symm.trans (F.len _ _ _ _ q)
  have hbb := hb s us I.kIn (by rw [List.append_nil]; exact hl)
  rw [List.append_nil] at hbb
  refine wpAny_call (codeAny_mono (F.run A X.stack s H ⟨us, []⟩ us ws Q E hr he hbb r q) fun r s' hq => ?_)
  cases r with
  | error e => exact hx pins σ H s e s' I hq
  | ok fl =>
    cases fl with
    | ret u => exact k' u s' (I.after hq)
    | next => exact hq.elim
    | brk => exact hq.elim
    | cont => exact hq.elim
end
def rInOwn (C : Addr) (sp : Sp) (E : XK) : R2 := fun x y H Q => ∃ a dx fs, y = .ref a ∧ H a = some (.ins C dx fs) ∧ sp [y, x] H (fun v H' => ∃ b, v = .bl b ∧ Q (.bl b) H') E
def rNotInOwn (C : Addr) (sp : Sp) (E : XK) : R2 := fun x y H Q => ∃ a dx fs, y = .ref a ∧ H a = some (.ins C dx fs) ∧ sp [y, x] H (fun v H' => ∃ b, v = .bl b ∧ Q (.bl (!b)) H') E
def rGetOwn (C : Addr) (sp : Sp) (E : XK) : R2 := fun x y H Q => ∃ a dx fs, x = .ref a ∧ H a = some (.ins C dx fs) ∧ sp [x, y] H Q E
def rSetOwn (C : Addr) (sp : Sp) (E : XK) : TSet := fun o i v H Q => ∃ a dx fs, o = .ref a ∧ H a = some (.ins C dx fs) ∧ sp [o, i, v] H (fun _ H' => Q H') E
section
variable {X : Cx} {CX : CXT} {k : Nat} {C g : Addr} {fd : FuncData} {sp : Sp} {E : XK} {n0 n1 n2 : Str}
theorem op_inOwn (hs : PySem.W.findIn X.K (.ref C) "__contains__" = some (some (.ref g))) (hf : PySem.W.isFn X.K (.ref g) = true) (F : FnOk X.prog X.w X.K X.mg X.base CX k g fd [n0, n1] sp) (hb : Binds X.K fd [n0, n1] []) (hr : Room k X.A) (hx : Passes CX X E) :
    OpR X (compareOp .In) (rInOwn C sp E) := by
  intro pins s σ H x y v u Q I rx ry h
  obtain ⟨a, dx, fs, rfl, hy, q⟩ := h
  cases ry
  obtain ⟨od, hin⟩ := ins_fr I hy
  obtain ⟨m, fr⟩ := I.fr
  refine PySem.W.in_K fr I.ok.mod.kin hin hs hf (runX F hb hr I I.env0 hx (.cons (F := RelV) (a := .ref a) (b := .ref a) rfl (.cons rx .nil)) q fun u' s' e => ?_)
  obtain ⟨w, H', I', rv, b, rfl, q'⟩ := e
  have rv' : u' = .bool b := rv
  subst rv'
  exact wpAny_truthy_bool ⟨.bl b, H', I', rfl, q'⟩
theorem op_notInOwn (hs : PySem.W.findIn X.K (.ref C) "__contains__" = some (some (.ref g))) (hf : PySem.W.isFn X.K (.ref g) = true) (F : FnOk X.prog X.w X.K X.mg X.base CX k g fd [n0, n1] sp) (hb : Binds X.K fd [n0, n1] []) (hr : Room k X.A) (hx : Passes CX X E) :
    OpR X (compareOp .NotIn) (rNotInOwn C sp E) := by
  intro pins s σ H x y v u Q I rx ry h
  obtain ⟨a, dx, fs, rfl, hy, q⟩ := h
  cases ry
  obtain ⟨od, hin⟩ := ins_fr I hy
  obtain ⟨m, fr⟩ := I.fr
  refine PySem.W.notIn_K fr I.ok.mod.kin hin hs hf (runX F hb hr I I.env0 hx (.cons (F := RelV) (a := .ref a) (b := .ref a) rfl (.cons rx .nil)) q fun u' s' e => ?_)
  obtain ⟨w, H', I', rv, b, rfl, q'⟩ := e
  have rv' : u' = .bool b := rv
  subst rv'
  exact wpAny_truthy_bool ⟨.bl (!b), H', I', rfl, q'⟩
/-- o[k] -/
theorem pe_getOwn {a b : Expr} {ta tb : TE} {pos : Pos} (hs : PySem.W.findIn X.K (.ref C) "__getitem__" = some (some (.ref g))) (hk : PySem.W.fnIn X.K g = true) (hf : PySem.W.isFn X.K (.ref g) = true) (F : FnOk X.prog X.w X.K X.mg X.base CX k g fd [n0, n1] sp) (hb : Binds X.K fd [n0, n1] [])
    (hr : Room (k + 1) X.A) (hx : Passes CX X E) (h1 : PE X a ta) (h2 : PE X b tb) (hsl : ∀ o i, subscripted b true o i = runValue (.builtin "lifetime.subscript" ⟨[o, i], []⟩) := by intro _ _; with_unfolding_all rfl) : PE X (.Subscript a b pos) (tOp (rGetOwn C sp E) ta tb) := by
  refine ⟨fun pins s σ H Q I h => ?_⟩
  refine Subscript_ (binT h1 h2 I h fun v u s2 x y H2 I2 rx ry q => ?_)
  obtain ⟨p, dx, fs, rfl, hp, q⟩ := q
  cases rx
  obtain ⟨od, hin⟩ := ins_fr I2 hp
  obtain ⟨m, fr⟩ := I2.fr
  exact PySem.W.sub_K fr I2.ok.mod.kin hin hs hk hf (runX F hb hr.in1 I2 I2.env0.in1 hx (.cons (F := RelV) (a := .ref p) (b := .ref p) rfl (.cons ry .nil)) q fun _ _ e => e) (hsl _ _)
/-- o[k] = v -/
theorem set_own (hq : PySem.W.noSeq X.K C = true) (hs : PySem.W.findIn X.K (.ref C) "__setitem__" = some (some (.ref g))) (hf : PySem.W.isFn X.K (.ref g) = true) (F : FnOk X.prog X.w X.K X.mg X.base CX k g fd [n0, n1, n2] sp) (hb : Binds X.K fd [n0, n1, n2] [])
    (hr : Room k X.A) (hx : Passes CX X E) : PSet X (rSetOwn C sp E) := by
  intro pins s σ H o i v ov iv u Q I r1 r2 r3 h
  obtain ⟨a, dx, fs, rfl, hp, q⟩ := h
  cases r1
  obtain ⟨od, hin⟩ := ins_fr I hp
  obtain ⟨m, fr⟩ := I.fr
  refine PySem.W.ksp_setItem fr I.ok.mod.kin hin hq hs hf (runX F hb hr I I.env0 hx (.cons (F := RelV) (a := .ref a) (b := .ref a) rfl (.cons r2 (.cons r3 .nil))) q fun u' s' e => ?_)
  obtain ⟨w, H', I', rv, q'⟩ := e
  exact ⟨H', I', q'⟩
end
section
variable {prog : Program} {w : World} {A : Around} {E : Value → Shared → Prop} {s : Shared} {K : PySem.W.Frag} {x y C : Addr} {ox oy : Obj} {od od' : Option Obj}
def idV (x y : Addr) : Value := if x = y then .bool true else .notImplemented
theorem notTup (I : PySem.W.InstAt s.heap x ox C od) : ox.cls ≠ .type "tuple" := by
  rw [I.cls]
  intro z
  cases z
theorem objEq_id {Q : Value → Shared → Prop} (X : K.In s.heap) (I : PySem.W.InstAt s.heap x ox C od) (J : PySem.W.InstAt s.heap y oy C od') (hm : PySem.W.mroIn K C (.type "object") = some true) (hq : Q (idV x y) s) :
    wpAny (model prog w) A (call (.builtin "object.__eq__") [.ref x, .ref y]) Q E s := by
  refine wpAny_call (codeAny_call_builtin PySem.F.cmp_object.eq.plain PySem.F.cmpEntry_eq (PySem.W.check_slot PySem.F.cmpKind_eq PySem.F.cmpSplit_eq (I.type.andThen (PySem.W.looks_mroIn X hm)) (PySem.F.cmpArgs_eq _ _) ?_))
  unfold idV at hq
  by_cases e : x = y
  · subst e
    rw [if_pos rfl] at hq
    exact objEq_entry_same hq
  · rw [if_neg e] at hq
    exact objEq_entry_other e I.at_ J.at_ (notTup I) hq
theorem objNe_id {Q : Value → Shared → Prop} (hu : A.in1.units < cLine) (X : K.In s.heap) (I : PySem.W.InstAt s.heap x ox C od) (J : PySem.W.InstAt s.heap y oy C od') (hm : PySem.W.mroIn K C (.type "object") = some true)
    (hs : PySem.W.findIn K (.ref C) "__eq__" = some (some (.builtin "object.__eq__"))) (hq : Q (if x = y then .bool false else .notImplemented) s) :
    wpAny (model prog w) A (call (.builtin "object.__ne__") [.ref x, .ref y]) Q E s := by
  have sub : PySem.W.Looks (model prog w) s.heap (isInstance (.ref x) (.type "object")) true := I.type.andThen (PySem.W.looks_mroIn X hm)
  refine wpAny_call (codeAny_call_builtin PySem.F.cmp_object.ne.plain PySem.F.cmpEntry_ne (PySem.W.check_slot PySem.F.cmpKind_ne PySem.F.cmpSplit_ne sub (PySem.F.cmpArgs_ne _ _) ?_))
  unfold Builtin.«object.__ne__»
  refine wpAny_bind (wpAny_pure ?_)
  dsimp only
  refine wpAny_bind (wpAny_cRoomFor hu ?_)
  refine wpAny_bind (HN.ifBound_objEq X I hs (objEq_id X I J hm ?_))
  unfold idV
  by_cases e : x = y
  · rw [if_pos e] at hq ⊢
    dsimp only
    refine wpAny_bind ?_
    unfold truthy
    exact wpAny_pure (wpAny_pure hq)
  · rw [if_neg e] at hq ⊢
    dsimp only
    exact wpAny_pure hq
theorem rc_idEq {Q : Value → Shared → Prop} (hu : A.units < cLine) (X : K.In s.heap) (I : PySem.W.InstAt s.heap x ox C od) (hm : PySem.W.mroIn K C (.type "object") = some true) (hs : PySem.W.findIn K (.ref C) "__eq__" = some (some (.builtin "object.__eq__")))
    (hq : Q (.bool true) s) : wpAny (model prog w) A (richCompare .Eq (.ref x) (.ref x)) Q E s := by
  simp only [richCompare, cmpInfo_Eq, oneThing_ref]
  refine wpAny_holding (wpAny_bind (wpAny_cRoomFor hu ?_))
  refine wpAny_bind (I.type.here (wpAny_bind (I.type.here ?_)))
  rw [if_neg (by simp)]
  refine wpAny_bind (wpAny_pure ?_)
  simp only [Bool.false_eq_true, if_false]
  refine wpAny_bind ?_
  unfold tryCompare
  refine wpAny_bind (HN.ifBound_objEq X I hs (objEq_id X I I hm ?_))
  unfold idV
  rw [if_pos rfl]
  dsimp only
  exact wpAny_pure (wpAny_pure hq)
theorem rc_idNe {Q : Value → Shared → Prop} (hu : A.in1.units < cLine) (X : K.In s.heap) (I : PySem.W.InstAt s.heap x ox C od) (J : PySem.W.InstAt s.heap y oy C od') (hm : PySem.W.mroIn K C (.type "object") = some true) (hs : PySem.W.findIn K (.ref C) "__eq__" = some (some (.builtin "object.__eq__")))
    (hn : PySem.W.findIn K (.ref C) "__ne__" = some (some (.builtin "object.__ne__"))) (hq : Q (.bool (decide (x ≠ y))) s) : wpAny (model prog w) A (richCompare .NotEq (.ref x) (.ref y)) Q E s := by
  have hu0 : A.units < cLine := Nat.lt_of_le_of_lt (Nat.le_succ _) hu
  have one : ∀ {a b : Addr} {oa ob : Obj} {da db : Option Obj}, PySem.W.InstAt s.heap a oa C da → PySem.W.InstAt s.heap b ob C db → wpAny (model prog w) A (tryCompare (.ref a) "__ne__" (.ref b)) (fun r s' => s' = s ∧ r = if a = b then some (.bool false) else none) E s := fun {a b oa ob da db} I J => by
    unfold tryCompare
    refine wpAny_bind (ifBound_blt (id := "object.__ne__") X I hn PySem.F.cmp_object.ne.bind (objNe_id hu X I J hm hs ?_))
    by_cases e : a = b
    · rw [if_pos e, if_pos e]
      exact wpAny_pure ⟨rfl, rfl⟩
    · rw [if_neg e, if_neg e]
      exact wpAny_pure ⟨rfl, rfl⟩
  unfold richCompare
  simp only [oneThing_ref]
  refine wpAny_holding (wpAny_bind (wpAny_cRoomFor hu0 ?_))
  refine wpAny_bind (I.type.here (wpAny_bind (J.type.here ?_)))
  rw [if_neg (by simp)]
  refine wpAny_bind (wpAny_pure ?_)
  simp only [Bool.false_eq_true, if_false]
  refine wpAny_bind (wpAny_mono (one I J) (fun r s1 z => ?_) fun _ _ e => e)
  obtain ⟨z1, z2⟩ := z
  subst z1
  subst z2
  by_cases e : x = y
  · rw [if_pos e]
    rw [decide_eq_false (fun z => z e)] at hq
    exact wpAny_pure hq
  · rw [if_neg e]
    rw [decide_eq_true e] at hq
    simp only [Bool.not_false, if_true]
    refine wpAny_bind (wpAny_mono (one J I) (fun r s2 z => ?_) fun _ _ e => e)
    obtain ⟨z1, z2⟩ := z
    subst z1
    subst z2
    rw [if_neg (Ne.symm e)]
    refine wpAny_bind (wpAny_rule (wpAny_bind (wpAny_isSame_ref_other e I.at_ J.at_ (notTup I) (wpAny_pure hq))))
end
def rEqSelf (C : Addr) : R2 := fun x y H Q => ∃ a dx fs, x = .ref a ∧ y = .ref a ∧ H a = some (.ins C dx fs) ∧ Q (.bl true) H
def rNeId (C : Addr) : R2 := fun x y H Q => ∃ a b dx dy fs gs, x = .ref a ∧ y = .ref b ∧ H a = some (.ins C dx fs) ∧ H b = some (.ins C dy gs) ∧ Q (.bl (decide (a ≠ b))) H
section
variable {X : Cx} {C : Addr}
theorem op_eqSelf (hm : PySem.W.mroIn X.K C (.type "object") = some true) (hs : PySem.W.findIn X.K (.ref C) "__eq__" = some (some (.builtin "object.__eq__"))) (hu : X.A.units < cLine) : OpR X (compareOp .Eq) (rEqSelf C) := by
  intro pins s σ H x y v u Q I rx ry h
  obtain ⟨a, dx, fs, rfl, rfl, ha, q⟩ := h
  cases rx
  cases ry
  obtain ⟨od, hin⟩ := ins_fr I ha
  exact rc_idEq hu I.kIn hin hm hs ⟨.bl true, H, I, rfl, q⟩
theorem op_neId (hm : PySem.W.mroIn X.K C (.type "object") = some true) (hs : PySem.W.findIn X.K (.ref C) "__eq__" = some (some (.builtin "object.__eq__"))) (hn : PySem.W.findIn X.K (.ref C) "__ne__" = some (some (.builtin "object.__ne__"))) (hu : X.A.in1.units < cLine) : OpR X (compareOp .NotEq) (rNeId C) := by
  intro pins s σ H x y v u Q I rx ry h
  obtain ⟨a, b, dx, dy, fs, gs, rfl, rfl, ha, hb, q⟩ := h
  cases rx
  cases ry
  obtain ⟨od, hin⟩ := ins_fr I ha
  obtain ⟨od', hin'⟩ := ins_fr I hb
  exact rc_idNe hu I.kIn hin hin' hm hs hn ⟨.bl (decide (a ≠ b)), H, I, rfl, q⟩
end
end L2.XK
namespace L2.XK
open PySem PySem.Spec PyProof.Rows XC Evl
/-- what is not reached -/
theorem ps_nvr {X : Cx} {s : Stmt} : PS X s (fun _ _ _ => False) := ⟨fun _ _ _ _ _ _ h => h.elim⟩
theorem pt_nvr {X : Cx} {e : Expr} : PT X e (fun _ _ _ => False) := ⟨fun _ _ _ _ _ _ h => h.elim⟩
end L2.XK
namespace L2.XK
open PySem PySem.Spec PyProof.Rows XC Evl
/-- a field, the part of the heap named -/
theorem pe_fldKk {X : Cx} {K : PySem.W.Frag} (hK : X.K = K) {e : Expr} {f : Str} {pos : Pos} {ta : TE} (h : PE X e ta) (hb : attributeBase e f X.env (eval e X.env) = eval e X.env) : PE X (e.Attribute f pos) (tFld K ta f) := by
  rw [← hK]
  exact pe_fld h hb
end L2.XK

set_option Elab.async false
set_option maxRecDepth 100000
set_option maxHeartbeats 400000
set_option linter.all false
/-! {**d, k: v}. -/
namespace L2.XK
open PySem PySem.Spec PyProof.Rows XC Evl
section
variable {prog : Program} {w : World} {A : Around} {E : Value → Shared → Prop} {s : Shared}
abbrev MK (prog : Program) (w : World) := mixKind prog w
/-- one pair is put -/
theorem put_pair {d : Addr} {kvs : List (Key × Value)} {k : Key} {ky v : Value} {Q : Unit → Shared → Prop} (hk0 : (MK prog w).is k ky = true) (hm : s.heap.DictOf (MK prog w) d kvs) (hz : kvs.length ≤ sizeLine)
    (q : ∀ h', h'.DictOf (MK prog w) d (stored kvs k v) → Heap.SameBut d s.heap h' → Q () { s with heap := h' }) : wpAny (model prog w) A (dictPut d ((MK prog w).hash k) ky v) Q E s := by
  obtain ⟨o, es, ep, ho, hc, hd, hk, hp, hn⟩ := hm
  have hes : es.size ≤ sizeLine := by
    have e := hp.length
    rw [Array.length_toList] at e
    omega
  have ix : (es.findIdx? fun e => (MK prog w).is k e.key) = kvs.findIdx? fun kv => decide (kv.1 = k) := by
    rw [← hp.findIdx k]
    obtain ⟨l⟩ := es
    simp
  unfold dictPut
  refine wpAny_bind (wpAny_dictFind_of hk0 ho hd hk ?_)
  cases hi : es.findIdx? fun e => (MK prog w).is k e.key with
  | some i =>
    have st : stored kvs k v = kvs.map fun kv => if kv.1 = k then (kv.1, v) else kv := by rw [stored, if_pos (any_of_findIdx_some (ix ▸ hi))]
    have hl : (es.toList.findIdx? fun e => (MK prog w).is k e.key) = some i := by
      rw [← hi]
      obtain ⟨l⟩ := es
      simp
    have pm := hp.modify hn hl v
    refine wpAny_updateDict ho hd (q _ ⟨_, _, ep, Heap.get?_update_self _ ho (Obj.isFreed_of_dict (Obj.data_mapDict hd _)), hc.mapDict _, Obj.data_mapDict hd _, hk.modify _ _, ?_, ?_⟩ (Heap.SameBut.update ..))
    · rw [st]
      obtain ⟨l⟩ := es
      simpa using pm
    · rw [st, keys_map_store]
      exact hn
  | none =>
    have nm : k ∉ kvs.map (·.1) := not_mem_of_findIdx_none (ix ▸ hi)
    have st : stored kvs k v = kvs ++ [(k, v)] := by
      rw [stored, if_neg]
      rw [List.any_eq_true]
      rintro ⟨kv, h1, h2⟩
      exact nm (List.mem_map.mpr ⟨kv, h1, of_decide_eq_true h2⟩)
    have pa := hp.append hk0 ((MK prog w).hash k) v
    refine wpAny_updateDictKeys (hz := hes) ho hd (q _ ⟨_, _, ep + 1, Heap.get?_update_self _ ho (Obj.isFreed_of_dict (Obj.data_mapDictKeys hd _)), hc.mapDictKeys _, Obj.data_mapDictKeys hd _, hk.push hk0 _, ?_, ?_⟩ (Heap.SameBut.update ..))
    · rw [st]
      obtain ⟨l⟩ := es
      simpa using pa
    · rw [st, List.map_append, List.nodup_append]
      refine ⟨hn, by simp, fun a ha b hb => ?_⟩
      simp only [List.map_cons, List.map_nil, List.mem_singleton] at hb
      subst hb
      exact fun e => nm (e ▸ ha)
/-- a dict is merged into another -/
theorem merge_map {d o : Addr} {kvs more : List (Key × Value)} {Q : Unit → Shared → Prop} (hdo : d ≠ o) (hoS : (o == sysModules) = false) (hd : s.heap.DictOf (MK prog w) d kvs) (ho : s.heap.DictOf (MK prog w) o more)
    (hz : kvs.length + more.length ≤ sizeLine) (q : ∀ h', h'.DictOf (MK prog w) d (merged kvs more) → Heap.SameBut d s.heap h' → Q () { s with heap := h' }) : wpAny (model prog w) A (mergeMapping d (.ref o) false) Q E s := by
  obtain ⟨od, esd, epd, hod, hcd, hdd, hkd, hpd, hnd⟩ := id hd
  obtain ⟨oo, eso, epo, hoo, hco, hdo', hko, hpo, hno⟩ := id ho
  have hlen : more.length = eso.size := by rw [← hpo.length, Array.length_toList]
  have loop : ∀ (X : Sem PUnit), X = (do
      let l ← dictEntries o
      let epoch ← dictEpoch o
      forIn (List.range l.size) PUnit.unit fun i (_ : PUnit) => (do
          let l' ← dictEntries o
          match l'[i]? with
            | some e => do
              holding [e.key, e.val] (dictPut d e.hash e.key e.val)
              let ep' ← dictEpoch o
              if (ep' != epoch) = true then do
                  (unsupported "dict.changed-during-merge" : Sem PUnit)
                  pure (ForInStep.yield PUnit.unit)
                else pure (ForInStep.yield PUnit.unit)
            | _ => do
              (unsupported "dict.changed-during-merge" : Sem PUnit)
              pure (ForInStep.yield PUnit.unit) : Sem (ForInStep PUnit))
      pure ()) → wpAny (model prog w) A X Q E s := fun X eX => by
    subst eX
    refine wpAny_bind (wpAny_dictEntries hoo hdo' ?_)
    refine wpAny_bind (wpAny_dictEpoch hoo hdo' ?_)
    refine wpAny_bind ?_
    rw [List.range_eq_range']
    refine wpAny_forIn_list _ (fun rest _ s' => ∃ h' i, s' = { s with heap := h' } ∧ rest = List.range' i (eso.size - i) ∧ i ≤ eso.size ∧ h'.DictOf (MK prog w) d (merged kvs (more.take i)) ∧ h'.get? o = some oo ∧ Heap.SameBut d s.heap h') _ ?_ ?_ _ _
      ⟨s.heap, 0, rfl, by simp, Nat.zero_le _, by simpa [merged] using hd, hoo, Heap.SameBut.refl _ _⟩
    · rintro x rest b s' ⟨h', i, rfl, hr, hi, hd', hoo', hs'⟩
      have lt : i < eso.size := by
        rcases Nat.lt_or_ge i eso.size with h | h
        · exact h
        · rw [Nat.sub_eq_zero_of_le h] at hr
          simp at hr
      have e1 : eso.size - i = (eso.size - (i + 1)) + 1 := by omega
      rw [e1, List.range'_succ] at hr
      injection hr with hx hrest
      subst hx
      refine wpAny_bind (wpAny_dictEntries hoo' hdo' ?_)
      rw [Array.getElem?_eq_getElem lt]
      obtain ⟨⟨k, v⟩, hkv⟩ : ∃ kv, more[x]? = some kv := ⟨more[x]'(by rw [hlen]; exact lt), List.getElem?_eq_getElem _⟩
      obtain ⟨hkey, hval⟩ := hpo.get? (e := eso[x]) (by simp [lt]) hkv
      obtain ⟨k', hkey', hhash⟩ := hko eso[x] (Array.getElem_mem lt)
      obtain rfl : k' = k := (MK prog w).inj _ _ _ hkey' hkey
      have mz : (merged kvs (more.take x)).length ≤ sizeLine := by
        have a1 := merged_length_le kvs (more.take x)
        have a2 : (more.take x).length ≤ more.length := by rw [List.length_take]; omega
        omega
      dsimp only
      rw [hhash, hval]
      refine wpAny_bind (wpAny_holding (put_pair hkey hd' mz fun h2 hd2 hs2 => ?_))
      have hoo2 : h2.get? o = some oo := (hs2.2 o (Ne.symm hdo)).trans hoo'
      refine wpAny_bind (wpAny_dictEpoch hoo2 hdo' ?_)
      rw [if_neg (by simp)]
      exact wpAny_pure ⟨h2, x + 1, rfl, hrest, lt, by rw [merged_take_succ kvs more x (k', v) hkv]; exact hd2, hoo2, hs'.trans hs2⟩
    · rintro b s' ⟨h', i, rfl, hr, hi, hd', hoo', hs'⟩
      have e0 : i = eso.size := by
        rcases Nat.lt_or_ge i eso.size with h | h
        · have e : eso.size - i = (eso.size - (i + 1)) + 1 := by omega
          rw [e, List.range'_succ] at hr
          cases hr
        · exact Nat.le_antisymm hi h
      refine wpAny_pure (q h' ?_ hs')
      rw [e0, ← hlen, List.take_length] at hd'
      exact hd'
  unfold mergeMapping
  refine wpAny_bind (wpAny_isInstance ho.typeIs isSubtype_dict_dict ?_)
  dsimp only
  rw [if_pos rfl]
  refine wpAny_bind (wpAny_specialOf ho.typeIs PySem.F.slot_dict_iter.lookup ?_)
  refine wpAny_bind (wpAny_pure ?_)
  simp only [beq_self_eq_true]
  rw [hoS, if_neg (by simp)]
  refine wpAny_bind (wpAny_dictEntries hod hdd ?_)
  split
  · refine wpAny_bind (wpAny_dictEntries hoo hdo' ?_)
    refine wpAny_bind ?_
    rw [← Array.forIn_toList]
    refine wpAny_forIn_list _ (fun rest _ s' => s' = s ∧ ∀ e ∈ rest, ∀ a, e.key ≠ .ref a) _ ?_ ?_ _ _ ⟨rfl, fun e he a z => ?_⟩
    · rintro e rest b s' ⟨rfl, hn⟩
      have nr := hn e (by simp)
      split
      · rename_i a hk
        exact absurd hk (nr a)
      · exact wpAny_pure ⟨rfl, fun e' h' => hn e' (List.mem_cons_of_mem _ h')⟩
    · rintro b s' ⟨rfl, hn⟩
      exact loop _ rfl
    · obtain ⟨k, hk, _⟩ := hko e (Array.mem_toList_iff.mp he)
      rcases keyIs_shape hk with ⟨i, t, _, ev⟩ | ⟨z', t, _, ev⟩ <;> rw [ev] at z <;> cases z
  · exact loop _ rfl
end
def tSpread (td tk tv : TE) : TE := fun σ H Q => ∀ p, H p = none → td σ (upd H p (.dK [])) fun x H1 => ∃ (a : Addr) (kvs : List (Key × V)), x = .ref a ∧ a ≠ p ∧ H1 a = some (.dK kvs) ∧ H1 p = some (.dK []) ∧ kvs.length ≤ 100000 ∧
  ∀ p2, H1 p2 = none → p2 ≠ p → tk σ (upd (upd H1 p (.dK kvs)) p2 (.dK [])) fun y H2 => tv σ H2 fun z H3 => ∃ k : Key, y = kV k ∧ H3 p = some (.dK kvs) ∧ H3 p2 = some (.dK []) ∧ Q (.ref p) (upd (upd H3 p2 (.dK [(k, z)])) p (.dK (putK kvs k z)))
theorem kv_one {k : Key} {z : V} {v : Value} (r : RelV z v) : KV [(k, z)] [(k, v)] := .cons ⟨rfl, r⟩ .nil
theorem pe_spread {X : Cx} {pos : Pos} {de ke ve : Expr} {td tk tv : TE} (hd : PE X de td) (hk : PE X ke tk) (hv : PE X ve tv) : PE X (.Dict [none, some ke] [de, ve] pos) (tSpread td tk tv) := by
  refine ⟨fun pins s σ H Q I h => ?_⟩
  rw [arm_eval_Dict]
  refine wpAny_bind (wpAny_standAt ?_)
  change wpAny _ _ (dictDisplay [(none, do let x ← eval de X.env; standAt pos; pure x), (some (eval ke X.env), do let x ← eval ve X.env; standAt pos; pure x)]) _ _ _
  unfold dictDisplay
  dsimp only
  simp only [List.forIn_cons, List.forIn_nil, pure_bind, bind_assoc, List.isEmpty_nil, if_true, List.nil_append, List.length_singleton, Nat.reduceBEq, Bool.false_eq_true, if_false, List.isEmpty_cons]
  refine wpAny_bind (wpAny_alloc ?_)
  have hn := I.hok.fresh (Nat.le_refl s.heap.objs.size)
  have I1 := I.laid (a := s.heap.objs.size) (o := .dK []) (h' := s.heap.push { cls := .type "dict", data := .dict #[] }) (t' := s.toks) (fun _ _ q => Heap.get?_push_of_some _ q) (Nat.le_refl _) (dk_empty s.heap I.big)
  refine wpAny_bind (wpAny_holding (wpAny_bind (thn (hd.run pins _ σ _ _ I1 (h _ hn)) fun u s1 ⟨x, H1, J1, rx, q⟩ => wpAny_bind (wpAny_standAt (wpAny_pure ?_)))))
  obtain ⟨a, kvs, rfl, hap, ha, hp, hz, q⟩ := q
  cases rx
  obtain ⟨z1, lo, vs, rel, dd⟩ := dk_of J1.hok ha
  obtain ⟨_, hsys, vs0, r0, dp⟩ := dk_of J1.hok hp
  cases r0
  have nd : (vs.map (·.1)).Nodup := by
    obtain ⟨_, _, _, _, _, _, _, _, hn⟩ := dd
    exact hn
  have zl : sizeLine = 16777216 := sizeLine_eq
  have vl : vs.length = kvs.length := rel.length.symm
  refine wpAny_bind (wpAny_onRaise (wpAny_tryCatch (wpAny_onRaise (wpAny_holding (merge_map (Ne.symm hap) lo dp dd (by rw [List.length_nil]; omega) fun h' d' sb => ?_)))))
  rw [merged_nil_of_nodup vs nd] at d'
  have J2 := d_write (t' := s1.toks) J1 (by rw [hp]; exact True.intro) sb (let ⟨q, _, _, hq, _⟩ := d'; ⟨q, hq⟩) (dk_new z1 hsys rel d')
  refine wpAny_bind (wpAny_holding (wpAny_subDict (knd := MK X.prog X.w) (by simp) ?_))
  have J3 := J2.laid (a := h'.objs.size) (o := .dK []) (h' := h'.push { cls := .type "dict", data := .dict #[] }) (t' := s1.toks) (fun _ _ q => Heap.get?_push_of_some _ q) (Nat.le_refl _) (dk_empty h' J2.big)
  have n2 := J2.hok.fresh (Nat.le_refl h'.objs.size)
  have ne2 : h'.objs.size ≠ s.heap.objs.size := fun z => by
    rw [z, upd_same] at n2
    cases n2
  have n1 : H1 h'.objs.size = none := by
    rw [upd_ne ne2] at n2
    exact n2
  have q2 := q _ n1 ne2
  unfold evalPairs evalPairs
  refine wpAny_bind (thn (hk.run pins _ σ _ _ J3 q2) fun u2 s2 ⟨y, H2, J4, ry, q3⟩ => ?_)
  refine wpAny_bind (wpAny_holding (wpAny_bind (thn (hv.run pins _ σ _ _ J4 q3) fun u3 s3 ⟨z, H3, J5, rz, q4⟩ => wpAny_bind (wpAny_standAt (wpAny_pure ?_)))))
  obtain ⟨k, rfl, g1, g2, q5⟩ := q4
  refine wpAny_bind (wpAny_holding (wpAny_pure (wpAny_pure ?_)))
  obtain ⟨_, hsys2, vs2, r2, d2⟩ := dk_of J5.hok g2
  cases r2
  refine ⟨[(k, u3)], ⟨kV_is ry, rfl, True.intro⟩, d2, fun h4 d4 sb4 => ?_⟩
  have d4' : h4.DictOf (MK X.prog X.w) h'.objs.size [(k, u3)] := d4
  have J6 := d_write (t' := s3.toks + 1) J5 (by rw [g2]; exact True.intro) sb4 (let ⟨q, _, _, hq, _⟩ := d4'; ⟨q, hq⟩) (dk_new (kvs := [(k, z)]) (by rw [zl, List.length_singleton]; decide) hsys2 (kv_one rz) d4')
  have g1' : upd H3 h'.objs.size (.dK [(k, z)]) s.heap.objs.size = some (.dK kvs) := by
    rw [upd_ne (Ne.symm ne2)]
    exact g1
  obtain ⟨_, _, vs5, r5, d5⟩ := dk_of J6.hok g1'
  have l5 : vs5.length = kvs.length := r5.length.symm
  refine wpAny_bind (wpAny_onRaise (wpAny_holding (merge_map (Ne.symm ne2) hsys2 d5 d4' (by rw [List.length_singleton]; omega) fun h6 d6 sb6 => ?_)))
  have hz6 : (putK kvs k z).length ≤ sizeLine := by
    have := length_putK kvs k z
    omega
  have J7 := d_write (t' := s3.toks + 1) J6 (by rw [g1']; exact True.intro) sb6 (let ⟨q, _, _, hq, _⟩ := d6; ⟨q, hq⟩) (dk_new hz6 hsys (r5.put k rz) d6)
  exact wpAny_pure ⟨.ref s.heap.objs.size, _, J7, rfl, q5⟩
end L2.XK

set_option Elab.async false
set_option maxRecDepth 100000
set_option maxHeartbeats 400000
set_option linter.all false
/-! name = {k: v for ..} on one line, the name a local. -/
namespace L2.XK
open PySem PySem.Spec PyProof.Rows
section
variable {X : Cx}
theorem sw_trueD {kx vx : Expr} {gs : List Comprehension} {sc : Scope} {p1 p2 : Pos} {y : Str} {l : Nat} {env : Env} (hk : env.scope.kind = .function) (hy : env.scope.names.lookup y = some .local) (hl : (p2.line == p1.line) = true)
    (ha : (sc.names.any fun (n, k) => n == y && (k == .local || k == .cell)) = false) : swapsWith (.DictComp kx vx gs sc p1) (some (.Name y p2)) l env = pure true := by
  have k1 : env.kindOf y = some .local := hy
  have k2 : env.blockKind = .function := by
    unfold Env.blockKind
    rw [hk]
    rfl
  unfold swapsWith
  simp only [k2, k1, ha, Expr.pos, hl]
  rfl
theorem ps_setDc {i : Nat} {y : Str} {p2 spos p1 : Pos} {kx vx tg iter : Expr} {ifs : List Expr} {sc : Scope} {own : List (Str × Nat)} {wi : TI} {g : TG} {tt : TT} {tk tv : TE} (hc : X.calm = true) (hN : X.N.Nodup) (hy : X.N[i]? = some y) (hyl : X.env.scope.names.lookup y = some .local)
    (hsw : swapsWith (.DictComp kx vx [⟨tg, iter, ifs, 0⟩] sc p1) (some (.Name y p2)) spos.line X.env = pure true) (hi : PI X tg iter wi) (ok : BlkOk X.N X.env.scope sc own)
    (hg : ∀ (s : Shared) (H : Hp) (C : Addr) (cl : List (Str × Addr)) (fp : List Addr), PG (X.blk s H sc (compEnvC sc cl C X.env) fp) tg g)
    (ht : ∀ (s : Shared) (H : Hp) (C : Addr) (cl : List (Str × Addr)) (fp : List Addr), PTs (X.blk s H sc (compEnvC sc cl C X.env) fp) ifs tt)
    (hk : ∀ (s : Shared) (H : Hp) (C : Addr) (cl : List (Str × Addr)) (fp : List Addr), PE (X.blk s H sc (compEnvC sc cl C X.env) fp) kx tk)
    (he : ∀ (s : Shared) (H : Hp) (C : Addr) (cl : List (Str × Addr)) (fp : List Addr), PE (X.blk s H sc (compEnvC sc cl C X.env) fp) vx tv) (hs : ∀ x, foldedSetIterable iter X.env x = pure x := by intro _; rfl) :
    PS X (.Assign [.Name y p2] (.DictComp kx vx [⟨tg, iter, ifs, 0⟩] sc p1) spos) (tAsg (tDc wi g tt tk tv (own.map (·.2))) (gName i)) := by
  refine ⟨fun pins s σ H D I h => ?_⟩
  rw [exec_Assign_Name_used _ _ _ _ hsw]
  refine wpAny_bind (wpAny_standAt (wpAny_bind ?_))
  show wpAny _ X.A (do let _ ← comprehension (.DictComp kx vx [⟨tg, iter, ifs, 0⟩] sc p1) sc X.env (firstIterPos [⟨tg, iter, ifs, 0⟩] p1) newDict false (eval iter X.env) (some (assign (.Name y p2) X.env))) _ _ s
  have h2 : tDc wi g tt tk tv (own.map (·.2)) σ H (fun x H1 => gName i x σ H1 D.nx) := h
  refine wpAny_bind (thn (dc_core (Qf := fun _ s' => SP X pins D .next s') hc hN I hi ok hg ht hk he hs h2 fun L C s' m H' J q hn f => ?_) fun _ s' hq => wpAny_pure (wpAny_pure hq))
  show wpAny _ _ (assign (.Name y p2) X.env (.ref L)) _ _ _
  refine wpAny_assign_Name (store_ok2 (v := V.ref L) J hN hy (.inl hyl) rfl (fun s2 J2 ⟨a, sb, ha⟩ => ?_) (.inr hyl))
  obtain ⟨f0, f1, f2, f3, f4, f5⟩ := f
  have ca : C ≠ a := ha.elim (fun z => by rw [z]; exact f1) fun z e => f4 y a z e.symm
  exact ⟨m, hn.sameBut sb ca, fun h3 sb3 => ⟨_, H', J2.turned (t' := s2.toks) (fun b o hb e => (sb3.2 b hb).trans e) f0 f1 f3 f4 f5, q⟩⟩
end
end L2.XK

set_option Elab.async false
set_option maxRecDepth 100000
set_option maxHeartbeats 400000
set_option linter.all false
/-! a, b = x, y where a name is a cell: a tuple that is taken apart. -/
namespace L2.XK
open PySem PySem.Spec PyProof.Rows XC Evl
theorem ps_parC {X : Cx} {pos : Pos} {i j : Nat} {x y : Str} {a b : Expr} {ta : TA} {px py pt : Pos} {kt k2 pt2} (hc : X.calm = true) (hN : X.N.Nodup) (hi : X.N[i]? = some x) (hj : X.N[j]? = some y)
    (hx : Loc X.env.scope x) (hy : Loc X.env.scope y) (ha : PA X [a, b] ta)
    (hw : swappedStores [.Tuple [.Name x px, .Name y py] kt pt] (.Tuple [a, b] k2 pt2) X.env = pure none)
    (hs : swapsWithSole [.Tuple [.Name x px, .Name y py] kt pt] (.Tuple [a, b] k2 pt2) pos.line X.env = pure false := by rfl)
    (hfx : X.fn x = true ∨ X.env.scope.names.lookup x = some .local := by first | exact .inl rfl | exact .inr rfl | assumption)
    (hfy : X.fn y = true ∨ X.env.scope.names.lookup y = some .local := by first | exact .inl rfl | exact .inr rfl | assumption) :
    PS X (.Assign [.Tuple [.Name x px, .Name y py] kt pt] (.Tuple [a, b] k2 pt2) pos) (tPar i j ta) := by
  refine ⟨fun pins s σ H D I h => ?_⟩
  refine wpAny_Assign_stores (Tuple_ (thn (ha.run _ pins s σ H _ I h) fun us s1 ⟨vs, H1, I1, r1, q1⟩ => ?_)) hs hw
  obtain ⟨v, w, e1, q1⟩ := q1
  subst e1
  obtain ⟨u1, u2, rfl, rv, rw'⟩ : ∃ u1 u2, us = [u1, u2] ∧ RelV v u1 ∧ RelV w u2 := by
    cases r1 with
    | cons p q =>
      cases q with
      | cons p' q' =>
        cases q'
        exact ⟨_, _, rfl, p, p'⟩
  refine wpAny_newObj_type ?_ (by show 2 ≤ sizeLine; decide)
  have I2 : Inv X pins σ H1 { s1 with heap := s1.heap.push { cls := .type "tuple", data := .seq [u1, u2].toArray } } := I1.kept (t' := s1.toks) fun b o e => Heap.get?_push_of_some _ e
  show wpAny (model X.prog X.w) X.A (assign (.Tuple [.Name x px, .Name y py] kt pt) X.env (.ref s1.heap.objs.size)) _ _ _
  refine assign_Tuple_tuple (items := #[u1, u2]) (I.ok.hd hc) (IsTup.new s1.heap _) (by rfl) (by rfl) fun h' hx' => ?_
  have I3 := I2.kept (h' := h') (t' := s1.toks) fun b o e => hx' b o (Nat.ne_of_lt (Heap.lt_size e)) e
  show wpAny _ _ (assignInOrder [assign (.Name x px) X.env, assign (.Name y py) X.env] [u1, u2]) _ _ _
  refine assignInOrder_cons (wpAny_assign_Name (store_ok I3 hN hi hx rv (fun s2 I4 => ?_) hfx))
  refine assignInOrder_cons (wpAny_assign_Name (store_ok I4 hN hj hy rw' (fun s3 I5 => assignInOrder_nil ?_) hfy))
  exact ⟨_, H1, I5, q1⟩
end L2.XK

set_option Elab.async false
set_option maxRecDepth 100000
set_option maxHeartbeats 4000000
set_option linter.all false
/-! Where the law's defs and the program's books stand. -/
namespace L2.KB
open PySem PySem.Spec PyProof.Rows XK Evl XC
abbrev sHouseEq : Stmt := KC.clsS 63 11
abbrev NHouseEq : List Str := ["self", "other"]
theorem scHouseEq : FnScope NHouseEq ["self", "other"] (defScope sHouseEq) := ⟨rfl, rfl, rfl, by decide +kernel, rfl, by decide +kernel, by decide +kernel⟩
abbrev sLawPurse : Stmt := KC.topS 193
abbrev NLawPurse : List Str := ["_law_script", "_law_purse_here", "_law_cell"]
theorem scLawPurse : FnScope NLawPurse ["_law_script"] (defScope sLawPurse) := ⟨rfl, rfl, rfl, by decide +kernel, rfl, by decide +kernel, by decide +kernel⟩
abbrev sLawDraw : Stmt := KC.topS 194
abbrev NLawDraw : List Str := ["_law_purse_here", "_law_many", "_law_k", "_law_at", "_law_digit"]
theorem scLawDraw : FnScope NLawDraw ["_law_purse_here", "_law_many"] (defScope sLawDraw) := ⟨rfl, rfl, rfl, by decide +kernel, rfl, by decide +kernel, by decide +kernel⟩
abbrev sLawPick : Stmt := KC.topS 195
abbrev NLawPick : List Str := ["_law_purse_here", "_law_menu"]
theorem scLawPick : FnScope NLawPick ["_law_purse_here", "_law_menu"] (defScope sLawPick) := ⟨rfl, rfl, rfl, by decide +kernel, rfl, by decide +kernel, by decide +kernel⟩
abbrev sLawCalled : Stmt := KC.topS 196
abbrev NLawCalled : List Str := ["_law_purse_here", "_law_many", "_law_letters", "_law_word", "_law_menu", "_law_at", "_law_k"]
theorem scLawCalled : FnScope NLawCalled ["_law_purse_here", "_law_many"] (defScope sLawCalled) := ⟨rfl, rfl, rfl, by decide +kernel, rfl, by decide +kernel, by decide +kernel⟩
abbrev sLawKept : Stmt := KC.topS 197
abbrev NLawKept : List Str := ["_law_book", "_law_known", "_law_changes", "_law_names", "_law_word"]
theorem scLawKept : FnScope NLawKept ["_law_book", "_law_known", "_law_changes"] (defScope sLawKept) := ⟨rfl, rfl, rfl, by decide +kernel, rfl, by decide +kernel, by decide +kernel⟩
abbrev sLawStrange : Stmt := KC.topS 198
abbrev NLawStrange : List Str := ["_law_book", "_law_some", "_law_given", "_law_way", "_law_found", "e"]
theorem scLawStrange : FnScope NLawStrange ["_law_book"] (defScope sLawStrange) := ⟨rfl, rfl, rfl, by decide +kernel, rfl, by decide +kernel, by decide +kernel⟩
abbrev sLaw : Stmt := KC.topS 199
abbrev NLaw : List Str := ["_law_script", "_law_purse_here", "_law_turn", "_law_called_here", "_law_menu", "_law_book", "_law_known", "_law_changes", "_law_way", "_law_home", "_law_other", "_law_word"]
theorem scLaw : FnScope NLaw ["_law_script"] (defScope sLaw) := ⟨rfl, rfl, rfl, by decide +kernel, rfl, by decide +kernel, by decide +kernel⟩
abbrev sIsName : Stmt := KC.topS 189
abbrev NIsName : List Str := ["thing", "sign"]
theorem scIsName : FnScope NIsName ["thing"] (defScope sIsName) := ⟨rfl, rfl, rfl, by decide +kernel, rfl, by decide +kernel, by decide +kernel⟩
abbrev sCheckHouse : Stmt := KC.topS 71
abbrev NCheckHouse : List Str := ["house"]
theorem scCheckHouse : FnScope NCheckHouse ["house"] (defScope sCheckHouse) := ⟨rfl, rfl, rfl, by decide +kernel, rfl, by decide +kernel, by decide +kernel⟩
abbrev sCheckWishes : Stmt := KC.topS 191
abbrev NCheckWishes : List Str := ["houses", "wish_row", "touched", "asked", "at", "name", "shown"]
theorem scCheckWishes : FnScope NCheckWishes ["houses", "wish_row", "touched"] (defScope sCheckWishes) := ⟨rfl, rfl, rfl, by decide +kernel, rfl, by decide +kernel, by decide +kernel⟩
abbrev sPageInit : Stmt := KC.clsS 187 0
abbrev NPageInit : List Str := ["self", "houses", "wish_row", "before"]
theorem scPageInit : FnScope NPageInit ["self", "houses", "wish_row", "before"] (defScope sPageInit) := ⟨rfl, rfl, rfl, by decide +kernel, rfl, by decide +kernel, by decide +kernel⟩
abbrev sBookInit : Stmt := KC.clsS 188 0
abbrev NBookInit : List Str := ["self"]
theorem scBookInit : FnScope NBookInit ["self"] (defScope sBookInit) := ⟨rfl, rfl, rfl, by decide +kernel, rfl, by decide +kernel, by decide +kernel⟩
abbrev sAskedInit : Stmt := KC.clsS 185 0
abbrev NAskedInit : List Str := ["self", "houses"]
theorem scAskedInit : FnScope NAskedInit ["self", "houses"] (defScope sAskedInit) := ⟨rfl, rfl, rfl, by decide +kernel, rfl, by decide +kernel, by decide +kernel⟩
abbrev sBookPut : Stmt := KC.clsS 188 1
abbrev NBookPut : List Str := ["self", "name", "house", "wish_row", "touched", "at", "houses", "wish"]
theorem scBookPut : FnScope NBookPut ["self", "name", "house"] (defScope sBookPut) := ⟨rfl, rfl, rfl, by decide +kernel, rfl, by decide +kernel, by decide +kernel⟩
abbrev sBookRemove : Stmt := KC.clsS 188 2
abbrev NBookRemove : List Str := ["self", "name", "houses", "at", "wish", "other"]
theorem scBookRemove : FnScope NBookRemove ["self", "name"] (defScope sBookRemove) := ⟨rfl, rfl, rfl, by decide +kernel, rfl, by decide +kernel, by decide +kernel⟩
abbrev sBookTurnTo : Stmt := KC.clsS 188 6
abbrev NBookTurnTo : List Str := ["self", "houses", "wish_row"]
theorem scBookTurnTo : FnScope NBookTurnTo ["self", "houses", "wish_row"] (defScope sBookTurnTo) := ⟨rfl, rfl, rfl, by decide +kernel, rfl, by decide +kernel, by decide +kernel⟩
abbrev sBookCheckKnown : Stmt := KC.clsS 188 7
abbrev NBookCheckKnown : List Str := ["self", "name"]
theorem scBookCheckKnown : FnScope NBookCheckKnown ["self", "name"] (defScope sBookCheckKnown) := ⟨rfl, rfl, rfl, by decide +kernel, rfl, by decide +kernel, by decide +kernel⟩
abbrev sBookNames : Stmt := KC.clsS 188 8
abbrev NBookNames : List Str := ["self"]
theorem scBookNames : FnScope NBookNames ["self"] (defScope sBookNames) := ⟨rfl, rfl, rfl, by decide +kernel, rfl, by decide +kernel, by decide +kernel⟩
abbrev sBookWishes : Stmt := KC.clsS 188 9
abbrev NBookWishes : List Str := ["self"]
theorem scBookWishes : FnScope NBookWishes ["self"] (defScope sBookWishes) := ⟨rfl, rfl, rfl, by decide +kernel, rfl, by decide +kernel, by decide +kernel⟩
abbrev sBookChanges : Stmt := KC.clsS 188 10
abbrev NBookChanges : List Str := ["self"]
theorem scBookChanges : FnScope NBookChanges ["self"] (defScope sBookChanges) := ⟨rfl, rfl, rfl, by decide +kernel, rfl, by decide +kernel, by decide +kernel⟩
abbrev sBookSetitem : Stmt := KC.clsS 188 13
abbrev NBookSetitem : List Str := ["self", "at", "worth"]
theorem scBookSetitem : FnScope NBookSetitem ["self", "at", "worth"] (defScope sBookSetitem) := ⟨rfl, rfl, rfl, by decide +kernel, rfl, by decide +kernel, by decide +kernel⟩
abbrev sBookGetitem : Stmt := KC.clsS 188 14
abbrev NBookGetitem : List Str := ["self", "at"]
theorem scBookGetitem : FnScope NBookGetitem ["self", "at"] (defScope sBookGetitem) := ⟨rfl, rfl, rfl, by decide +kernel, rfl, by decide +kernel, by decide +kernel⟩
abbrev sBookContains : Stmt := KC.clsS 188 15
abbrev NBookContains : List Str := ["self", "x"]
theorem scBookContains : FnScope NBookContains ["self", "x"] (defScope sBookContains) := ⟨rfl, rfl, rfl, by decide +kernel, rfl, by decide +kernel, by decide +kernel⟩
abbrev sBookLen : Stmt := KC.clsS 188 17
abbrev NBookLen : List Str := ["self"]
theorem scBookLen : FnScope NBookLen ["self"] (defScope sBookLen) := ⟨rfl, rfl, rfl, by decide +kernel, rfl, by decide +kernel, by decide +kernel⟩
abbrev sBookBool : Stmt := KC.clsS 188 18
abbrev NBookBool : List Str := ["self"]
theorem scBookBool : FnScope NBookBool ["self"] (defScope sBookBool) := ⟨rfl, rfl, rfl, by decide +kernel, rfl, by decide +kernel, by decide +kernel⟩
structure AdrZ where
  LawPurse : Addr
  fdLawPurse : FuncData
  LawDraw : Addr
  fdLawDraw : FuncData
  LawPick : Addr
  fdLawPick : FuncData
  LawCalled : Addr
  fdLawCalled : FuncData
  LawKept : Addr
  fdLawKept : FuncData
  LawStrange : Addr
  fdLawStrange : FuncData
  Law : Addr
  fdLaw : FuncData
  IsName : Addr
  fdIsName : FuncData
  CheckHouse : Addr
  fdCheckHouse : FuncData
  CheckWishes : Addr
  fdCheckWishes : FuncData
  Page : Addr
  PageInit : Addr
  fdPageInit : FuncData
  Book : Addr
  BookInit : Addr
  fdBookInit : FuncData
  Asked : Addr
  AskedInit : Addr
  fdAskedInit : FuncData
  BookPut : Addr
  fdBookPut : FuncData
  BookRemove : Addr
  fdBookRemove : FuncData
  BookTurnTo : Addr
  fdBookTurnTo : FuncData
  BookCheckKnown : Addr
  fdBookCheckKnown : FuncData
  BookNames : Addr
  fdBookNames : FuncData
  BookWishes : Addr
  fdBookWishes : FuncData
  BookChanges : Addr
  fdBookChanges : FuncData
  BookSetitem : Addr
  fdBookSetitem : FuncData
  BookGetitem : Addr
  fdBookGetitem : FuncData
  BookContains : Addr
  fdBookContains : FuncData
  BookLen : Addr
  fdBookLen : FuncData
  BookBool : Addr
  fdBookBool : FuncData
  pBookNames : Addr
  pBookWishes : Addr
  pBookChanges : Addr
  UnknownName : Addr
  iUnknownName : Addr
  WrongState : Addr
  WrongValue : Addr
  NoAnswer : Addr
  InvalidIndex : Addr
  HEq : Addr
  fdHEq : FuncData
structure TxtZ (K : PySem.W.Frag) (mg : Str → Option Value) (c : KC.AdrC) (b : KC.AdrH) (o : KC.AdrO) (z : AdrZ) : Prop extends KC.TxtO K mg c b o where
  gLawPurse : mg "_law_purse" = some (.ref z.LawPurse)
  kLawPurse : PySem.W.keepIn K (.ref z.LawPurse) = true
  fLawPurse : Fun K "_law_purse" "_law_purse" sLawPurse z.LawPurse z.fdLawPurse
  bLawPurse : Binds K z.fdLawPurse ["_law_script"] []
  gLawDraw : mg "_law_draw" = some (.ref z.LawDraw)
  kLawDraw : PySem.W.keepIn K (.ref z.LawDraw) = true
  fLawDraw : Fun K "_law_draw" "_law_draw" sLawDraw z.LawDraw z.fdLawDraw
  bLawDraw : Binds K z.fdLawDraw ["_law_purse_here", "_law_many"] []
  gLawPick : mg "_law_pick" = some (.ref z.LawPick)
  kLawPick : PySem.W.keepIn K (.ref z.LawPick) = true
  fLawPick : Fun K "_law_pick" "_law_pick" sLawPick z.LawPick z.fdLawPick
  bLawPick : Binds K z.fdLawPick ["_law_purse_here", "_law_menu"] []
  gLawCalled : mg "_law_called" = some (.ref z.LawCalled)
  kLawCalled : PySem.W.keepIn K (.ref z.LawCalled) = true
  fLawCalled : Fun K "_law_called" "_law_called" sLawCalled z.LawCalled z.fdLawCalled
  bLawCalled : Binds K z.fdLawCalled ["_law_purse_here", "_law_many"] []
  gLawKept : mg "_law_kept" = some (.ref z.LawKept)
  kLawKept : PySem.W.keepIn K (.ref z.LawKept) = true
  fLawKept : Fun K "_law_kept" "_law_kept" sLawKept z.LawKept z.fdLawKept
  bLawKept : Binds K z.fdLawKept ["_law_book", "_law_known", "_law_changes"] []
  gLawStrange : mg "_law_strange" = some (.ref z.LawStrange)
  kLawStrange : PySem.W.keepIn K (.ref z.LawStrange) = true
  fLawStrange : Fun K "_law_strange" "_law_strange" sLawStrange z.LawStrange z.fdLawStrange
  bLawStrange : Binds K z.fdLawStrange ["_law_book"] []
  gLaw : mg "law" = some (.ref z.Law)
  kLaw : PySem.W.keepIn K (.ref z.Law) = true
  fLaw : Fun K "law" "law" sLaw z.Law z.fdLaw
  bLaw : Binds K z.fdLaw ["_law_script"] []
  gIsName : mg "is_name" = some (.ref z.IsName)
  kIsName : PySem.W.keepIn K (.ref z.IsName) = true
  fIsName : Fun K "is_name" "is_name" sIsName z.IsName z.fdIsName
  bIsName : Binds K z.fdIsName ["thing"] []
  gCheckHouse : mg "check_house" = some (.ref z.CheckHouse)
  kCheckHouse : PySem.W.keepIn K (.ref z.CheckHouse) = true
  fCheckHouse : Fun K "check_house" "check_house" sCheckHouse z.CheckHouse z.fdCheckHouse
  bCheckHouse : Binds K z.fdCheckHouse ["house"] []
  gCheckWishes : mg "check_wishes" = some (.ref z.CheckWishes)
  kCheckWishes : PySem.W.keepIn K (.ref z.CheckWishes) = true
  fCheckWishes : Fun K "check_wishes" "check_wishes" sCheckWishes z.CheckWishes z.fdCheckWishes
  bCheckWishes : Binds K z.fdCheckWishes ["houses", "wish_row", "touched"] []
  clPage : Cls K z.Page
  mkPage : Mk K z.Page z.PageInit
  gPage : mg "Page" = some (.ref z.Page)
  nPageHouses : NoAttr K z.Page "houses"
  nPageWishRow : NoAttr K z.Page "wish_row"
  nPageBefore : NoAttr K z.Page "before"
  nPageDepth : NoAttr K z.Page "depth"
  fPageInit : Fun K "__init__" "Page.__init__" sPageInit z.PageInit z.fdPageInit
  bPageInit : Binds K z.fdPageInit ["self", "houses", "wish_row", "before"] []
  clBook : Cls K z.Book
  mkBook : Mk K z.Book z.BookInit
  gBook : mg "Book" = some (.ref z.Book)
  nBookPage : NoAttr K z.Book "page"
  fBookInit : Fun K "__init__" "Book.__init__" sBookInit z.BookInit z.fdBookInit
  bBookInit : Binds K z.fdBookInit ["self"] []
  clAsked : Cls K z.Asked
  mkAsked : Mk K z.Asked z.AskedInit
  gAsked : mg "Asked" = some (.ref z.Asked)
  nAskedHouses : NoAttr K z.Asked "houses"
  nAskedKnown : NoAttr K z.Asked "known"
  fAskedInit : Fun K "__init__" "Asked.__init__" sAskedInit z.AskedInit z.fdAskedInit
  bAskedInit : Binds K z.fdAskedInit ["self", "houses"] []
  fBookPut : Fun K "put" "Book.put" sBookPut z.BookPut z.fdBookPut
  bBookPut : Binds K z.fdBookPut ["self", "name", "house"] []
  meBookPut : Meth K z.Book "put" z.BookPut
  fBookRemove : Fun K "remove" "Book.remove" sBookRemove z.BookRemove z.fdBookRemove
  bBookRemove : Binds K z.fdBookRemove ["self", "name"] []
  meBookRemove : Meth K z.Book "remove" z.BookRemove
  fBookTurnTo : Fun K "turn_to" "Book.turn_to" sBookTurnTo z.BookTurnTo z.fdBookTurnTo
  bBookTurnTo : Binds K z.fdBookTurnTo ["self", "houses", "wish_row"] []
  meBookTurnTo : Meth K z.Book "turn_to" z.BookTurnTo
  fBookCheckKnown : Fun K "check_known" "Book.check_known" sBookCheckKnown z.BookCheckKnown z.fdBookCheckKnown
  bBookCheckKnown : Binds K z.fdBookCheckKnown ["self", "name"] []
  meBookCheckKnown : Meth K z.Book "check_known" z.BookCheckKnown
  fBookNames : Fun K "names" "Book.names" sBookNames z.BookNames z.fdBookNames
  bBookNames : Binds K z.fdBookNames ["self"] []
  prBookNames : PropOf K z.Book "names" z.pBookNames z.BookNames
  fBookWishes : Fun K "wishes" "Book.wishes" sBookWishes z.BookWishes z.fdBookWishes
  bBookWishes : Binds K z.fdBookWishes ["self"] []
  prBookWishes : PropOf K z.Book "wishes" z.pBookWishes z.BookWishes
  fBookChanges : Fun K "changes" "Book.changes" sBookChanges z.BookChanges z.fdBookChanges
  bBookChanges : Binds K z.fdBookChanges ["self"] []
  prBookChanges : PropOf K z.Book "changes" z.pBookChanges z.BookChanges
  fBookSetitem : Fun K "__setitem__" "Book.__setitem__" sBookSetitem z.BookSetitem z.fdBookSetitem
  bBookSetitem : Binds K z.fdBookSetitem ["self", "at", "worth"] []
  hBookSetitem : PySem.W.findIn K (.ref z.Book) "__setitem__" = some (some (.ref z.BookSetitem))
  fnBookSetitem : PySem.W.isFn K (.ref z.BookSetitem) = true
  fBookGetitem : Fun K "__getitem__" "Book.__getitem__" sBookGetitem z.BookGetitem z.fdBookGetitem
  bBookGetitem : Binds K z.fdBookGetitem ["self", "at"] []
  hBookGetitem : PySem.W.findIn K (.ref z.Book) "__getitem__" = some (some (.ref z.BookGetitem))
  fnBookGetitem : PySem.W.isFn K (.ref z.BookGetitem) = true
  fBookContains : Fun K "__contains__" "Book.__contains__" sBookContains z.BookContains z.fdBookContains
  bBookContains : Binds K z.fdBookContains ["self", "x"] []
  hBookContains : PySem.W.findIn K (.ref z.Book) "__contains__" = some (some (.ref z.BookContains))
  fnBookContains : PySem.W.isFn K (.ref z.BookContains) = true
  fBookLen : Fun K "__len__" "Book.__len__" sBookLen z.BookLen z.fdBookLen
  bBookLen : Binds K z.fdBookLen ["self"] []
  hBookLen : PySem.W.findIn K (.ref z.Book) "__len__" = some (some (.ref z.BookLen))
  fnBookLen : PySem.W.isFn K (.ref z.BookLen) = true
  fBookBool : Fun K "__bool__" "Book.__bool__" sBookBool z.BookBool z.fdBookBool
  bBookBool : Binds K z.fdBookBool ["self"] []
  hBookBool : PySem.W.findIn K (.ref z.Book) "__bool__" = some (some (.ref z.BookBool))
  fnBookBool : PySem.W.isFn K (.ref z.BookBool) = true
  fkBookGetitem : PySem.W.fnIn K z.BookGetitem = true
  bkseq : PySem.W.noSeq K z.Book = true
  bkm : PySem.W.mroIn K z.Book (.type "object") = some true
  bkeq : PySem.W.findIn K (.ref z.Book) "__eq__" = some (some (.builtin "object.__eq__"))
  bkne : PySem.W.findIn K (.ref z.Book) "__ne__" = some (some (.builtin "object.__ne__"))
  gUnknownName : mg "UnknownName" = some (.ref z.UnknownName)
  gWrongState : mg "WrongState" = some (.ref z.WrongState)
  gWrongValue : mg "WrongValue" = some (.ref z.WrongValue)
  gNoAnswer : mg "NoAnswer" = some (.ref z.NoAnswer)
  gInvalidIndex : mg "InvalidIndex" = some (.ref z.InvalidIndex)
  cUnknownName : XC.ClsGv K z.UnknownName z.iUnknownName "LookupError" "LookupError.__new__" "LookupError.__init__" [.type "LookupError", .type "Exception", .type "BaseException", .type "object"]
  rUnknownName : XK.RaB K z.UnknownName
  xiU : XK.XIs K z.UnknownName
  xU : PySem.W.exmOne K (.ref z.UnknownName) (.ref z.UnknownName) = some true
  kU1 : PySem.W.kitOne K (.ref z.UnknownName) (.ref z.WrongState) = some true
  kU2 : PySem.W.kitAny K (.ref z.UnknownName) [.ref z.WrongValue, .ref z.NoAnswer, .ref z.InvalidIndex] = some false
  hHEq : PySem.W.findIn K (.ref o.House) "__eq__" = some (some (.ref z.HEq))
  fnHEq : PySem.W.isFn K (.ref z.HEq) = true
  fHEq : Fun K "__eq__" "House.__eq__" sHouseEq z.HEq z.fdHEq
  bHEq : Binds K z.fdHEq ["self", "other"] []
  nfH : PySem.W.notFirst K o.House (.ref o.House) = true
  hca : PySem.W.findIn K (.ref o.House) "__class__" = some (some (.builtin "object.__class__"))
  hcn : PySem.W.specialIn K (.builtin "object.__class__") "__get__" = some (some (.builtin "getset_descriptor.__get__"))
  hct : PySem.W.takesIn K (.builtin "object.__class__") = some true
  hcm : PySem.W.mroIn K o.House (.type "object") = some true
  brange : mg "range" = none
  babs : mg "abs" = none
  blist : mg "list" = none
  bsorted : mg "sorted" = none
  bdict : mg "dict" = none
end L2.KB

set_option Elab.async false
set_option maxRecDepth 100000
set_option maxHeartbeats 400000
set_option linter.all false
/-! Books: what they are in the heap; their first defs keep their promises. -/
namespace L2.KB
open PySem PySem.Spec PyProof.Rows XK Evl XC
/-! what may change is hidden -/
def hd (G : List Addr) (H : Hp) : Hp := fun a => if a ∈ G then none else H a
theorem hd_in {G : List Addr} {H : Hp} {a : Addr} (h : a ∈ G) : hd G H a = none := if_pos h
theorem hd_out {G : List Addr} {H : Hp} {a : Addr} (h : a ∉ G) : hd G H a = H a := if_neg h
theorem hd_some {G : List Addr} {H : Hp} {a : Addr} {o : HO} (h : hd G H a = some o) : a ∉ G ∧ H a = some o := by
  by_cases q : a ∈ G
  · rw [hd_in q] at h; cases h
  · rw [hd_out q] at h; exact ⟨q, h⟩
theorem hdEx {G : List Addr} {H : Hp} : Ex (hd G H) H := fun a o h => (hd_some h).2
theorem hd_ex {G : List Addr} {H H' : Hp} (e : Ex H H') : Ex (hd G H) (hd G H') := fun a o h => by
  obtain ⟨h1, h2⟩ := hd_some h
  rw [hd_out h1]
  exact e _ _ h2
/-- all but b stays -/
def But (b : Addr) (H H' : Hp) : Prop := ∀ a u, a ≠ b → H a = some u → H' a = some u
theorem But.ex {b : Addr} {H H' : Hp} (e : Ex H H') : But b H H' := fun a u _ h => e a u h
theorem But.trans {b : Addr} {H H1 H2 : Hp} (x : But b H H1) (y : But b H1 H2) : But b H H2 := fun a u n h => y a u n (x a u n h)
theorem But.up {b : Addr} {H : Hp} {o : HO} : But b H (upd H b o) := fun a u n h => by rw [upd_ne n]; exact h
theorem But.hd {b : Addr} {G : List Addr} {H H' : Hp} (x : But b H H') (hb : b ∈ G) : Ex (hd G H) (hd G H') := fun a u h => by
  obtain ⟨h1, h2⟩ := hd_some h
  rw [hd_out h1]
  exact x a u (fun z => h1 (z ▸ hb)) h2
theorem But.some {b : Addr} {H H' : Hp} (x : But b H H') {a : Addr} (h : (H a).isSome = true) (hb : (H' b).isSome = true) : (H' a).isSome = true := by
  by_cases q : a = b
  · rw [q]; exact hb
  · obtain ⟨u, e⟩ := Option.isSome_iff_exists.mp h
    rw [x a u q e]
    rfl
/-! houses under names -/
abbrev Ms := List (Str × Addr)
def kvV (m : Ms) : List (Key × V) := m.map fun p => (Sum.inr p.1, V.ref p.2)
def putM (m : Ms) (s : Str) (a : Addr) : Ms := if m.any (fun p => decide (p.1 = s)) then m.map (fun p => if p.1 = s then (p.1, a) else p) else m ++ [(s, a)]
def dropM (m : Ms) (s : Str) : Ms := m.filter fun p => decide (p.1 ≠ s)
theorem valV_kv (s : Str) : ∀ m : Ms, valV (kvV m) (Sum.inr s) = (m.lookup s).map V.ref
  | [] => rfl
  | p :: m => by
    have ih := valV_kv s m
    unfold kvV at ih ⊢
    rw [List.map_cons]
    by_cases e : p.1 = s
    · rw [valV_pos (by rw [e]), List.lookup_cons, beq_iff_eq.mpr e.symm]
      rfl
    · rw [valV_neg (fun z => e (Sum.inr.inj z)), ih, List.lookup_cons, beq_eq_false_iff_ne.mpr (Ne.symm e)]
theorem any_kv (s : Str) (m : Ms) : ((kvV m).any fun kv => decide (kv.1 = (Sum.inr s : Key))) = m.any fun p => decide (p.1 = s) := by
  unfold kvV
  rw [List.any_map]
  congr 1
  funext p
  simp
theorem putK_kv (m : Ms) (s : Str) (a : Addr) : putK (kvV m) (Sum.inr s) (.ref a) = kvV (putM m s a) := by
  unfold putK putM
  rw [any_kv]
  split
  · unfold kvV
    rw [List.map_map, List.map_map]
    congr 1
    funext p
    by_cases e : p.1 = s
    · simp [e]
    · simp [e]
  · unfold kvV
    rw [List.map_append]
    rfl
theorem putM_fst (m : Ms) (s : Str) (a : Addr) : (putM m s a).map (·.1) = if m.any (fun p => decide (p.1 = s)) then m.map (·.1) else m.map (·.1) ++ [s] := by
  unfold putM
  split
  · rw [List.map_map]
    congr 1
    funext p
    by_cases e : p.1 = s
    · simp [e]
    · simp [e]
  · rw [List.map_append]
    rfl
theorem putM_nd {m : Ms} {s : Str} {a : Addr} (h : (m.map (·.1)).Nodup) : ((putM m s a).map (·.1)).Nodup := by
  rw [putM_fst]
  split
  · exact h
  · rename_i n
    rw [List.nodup_append]
    refine ⟨h, by simp, fun x hx y hy => ?_⟩
    obtain ⟨p, hp, rfl⟩ := List.mem_map.mp hx
    rw [List.mem_singleton.mp hy]
    exact fun z => n (List.any_eq_true.mpr ⟨p, hp, decide_eq_true z⟩)
theorem putM_len (m : Ms) (s : Str) (a : Addr) : (putM m s a).length ≤ m.length + 1 := by
  unfold putM
  split
  · rw [List.length_map]; omega
  · rw [List.length_append]; exact Nat.le_refl _
theorem putM_mem {m : Ms} {s : Str} {a : Addr} {q : Str × Addr} (h : q ∈ putM m s a) : q ∈ m ∨ q.2 = a := by
  unfold putM at h
  split at h
  · obtain ⟨p, hp, e⟩ := List.mem_map.mp h
    by_cases z : p.1 = s
    · rw [if_pos z] at e
      exact .inr (by rw [← e])
    · rw [if_neg z] at e
      exact .inl (e ▸ hp)
  · rcases List.mem_append.mp h with h | h
    · exact .inl h
    · exact .inr (by rw [List.mem_singleton.mp h])
theorem dropM_nd {m : Ms} {s : Str} (h : (m.map (·.1)).Nodup) : ((dropM m s).map (·.1)).Nodup := h.sublist (List.Sublist.map _ List.filter_sublist)
theorem dropM_len (m : Ms) (s : Str) : (dropM m s).length ≤ m.length := List.length_filter_le _ _
theorem dropM_mem {m : Ms} {s : Str} {q : Str × Addr} (h : q ∈ dropM m s) : q ∈ m := (List.mem_filter.mp h).1
theorem look_mem {s : Str} {a : Addr} : ∀ {m : Ms}, m.lookup s = some a → (s, a) ∈ m
  | p :: m, h => by
    rw [List.lookup_cons] at h
    by_cases e : s = p.1
    · rw [beq_iff_eq.mpr e] at h
      cases h
      rw [e]
      exact List.mem_cons_self
    · rw [beq_eq_false_iff_ne.mpr e] at h
      exact List.mem_cons_of_mem _ (look_mem h)
/-! houses, pages, books in the heap -/
def HsW (C : Addr) (H : Hp) (x : Addr) : Prop := ∃ dx l st ky rw t, H x = some (.ins C dx (KC.fieldsOf l st ky rw t))
theorem HsW.ex {C : Addr} {H H' : Hp} {x : Addr} (e : Ex H H') (h : HsW C H x) : HsW C H' x := by
  obtain ⟨dx, l, st, ky, rw, t, h⟩ := h
  exact ⟨dx, l, st, ky, rw, t, e _ _ h⟩
def pgF (d wr : Addr) (bf : V) (n : Nat) : List (Str × V) := [("houses", .ref d), ("wish_row", .ref wr), ("before", bf), ("depth", .int n)]
structure PageAt (K : PySem.W.Frag) (P C : Addr) (H : Hp) (p : Addr) (m : Ms) (n : Nat) : Prop where
  ob : ∃ dx d wr bf, H p = some (.ins P dx (pgF d wr bf n)) ∧ H d = some (.dK (kvV m)) ∧ SqT K H wr []
  hs : ∀ q ∈ m, HsW C H q.2
theorem PageAt.ex {K : PySem.W.Frag} {P C : Addr} {H H' : Hp} {p : Addr} {m : Ms} {n : Nat} (h : PageAt K P C H p m n) (e : Ex H H') : PageAt K P C H' p m n := by
  obtain ⟨dx, d, wr, bf, h1, h2, h3⟩ := h.ob
  exact ⟨⟨dx, d, wr, bf, e _ _ h1, e _ _ h2, ex_t e h3⟩, fun q hq => (h.hs q hq).ex e⟩
def bkF (p : Addr) : List (Str × V) := [("page", .ref p)]
structure BookAt (K : PySem.W.Frag) (o : KC.AdrO) (z : AdrZ) (G : List Addr) (H : Hp) (b : Addr) (m : Ms) (n : Nat) : Prop where
  mem : b ∈ G
  vis : ∀ a ∈ G, (H a).isSome = true
  ob : ∃ dx p, H b = some (.ins z.Book dx (bkF p)) ∧ PageAt K z.Page o.House (hd G H) p m n
  nd : (m.map (·.1)).Nodup
  sz : m.length ≤ 60
  nn : n ≤ 1000
section
variable {K : PySem.W.Frag} {o : KC.AdrO} {z : AdrZ} {G : List Addr} {H H' : Hp} {b : Addr} {m : Ms} {n : Nat}
theorem BookAt.ex (h : BookAt K o z G H b m n) (e : Ex H H') : BookAt K o z G H' b m n := by
  obtain ⟨dx, p, h1, h2⟩ := h.ob
  refine ⟨h.mem, fun a ha => ?_, ⟨dx, p, e _ _ h1, h2.ex (hd_ex e)⟩, h.nd, h.sz, h.nn⟩
  obtain ⟨u, hu⟩ := Option.isSome_iff_exists.mp (h.vis a ha)
  rw [e _ _ hu]
  rfl
/-- other things change -/
theorem BookAt.but {c : Addr} (h : BookAt K o z G H b m n) (k : But c H H') (hc : c ∈ G) (hb : b ≠ c) (hs : (H' c).isSome = true) : BookAt K o z G H' b m n := by
  obtain ⟨dx, p, h1, h2⟩ := h.ob
  exact ⟨h.mem, fun a ha => k.some (h.vis a ha) hs, ⟨dx, p, k _ _ hb h1, h2.ex (k.hd hc)⟩, h.nd, h.sz, h.nn⟩
theorem new_out (h : ∀ a ∈ G, (H a).isSome = true) {p : Addr} (hp : H p = none) : p ∉ G := fun hz => by
  have := h p hz
  rw [hp] at this
  cases this
end
section
variable {P : Program} {w : World} {K : PySem.W.Frag} {mg : Str → Option Value} {base : Heap} {c : KC.AdrC} {b : KC.AdrH} {o : KC.AdrO} {z : AdrZ}
theorem ev_fd {σ : L2.St} {H : Hp} {ta : TE} {x C dx : Addr} {fs : List (Str × V)} {f : Str} {v : V} (ha : Ev ta σ H (.ref x)) (hx : H x = some (.ins C dx fs)) (cl : Cls K C) (na : NoAttr K C f) (lk : fs.lookup f = some v) : Ev (tFld K ta f) σ H v := fun H1 e Q q =>
  ha H1 e _ fun H2 e2 => ⟨x, C, dx, fs, v, rfl, (e.trans e2) _ _ hx, cl, na, lk, q H2 e2⟩
theorem ev_isHo {σ : L2.St} {H : Hp} {ta tc : TE} {C : Addr} {x : V} {t : Value} {B : Bool} (ha : Ev ta σ H x) (hc : Ev tc σ H (.ref C)) (ty : ∀ H1, Ex H H1 → TyX K H1 x t) (hk : PySem.W.kitOne K t (.ref C) = some B) : Ev (tCB (rIsi K) (tCons ta (tCons tc tNil))) σ H (.bl B) := fun H1 e Q q =>
  ha H1 e _ fun H2 e2 => hc H2 (e.trans e2) _ fun H3 e3 => ⟨_, _, t, _, B, rfl, .own C, ty H3 ((e.trans e2).trans e3), hk, q H3 (e2.trans e3)⟩
def nameS (s : Str) : Bool := KC.lenB s && s.cps.toList.all KC.letterC
def spName : Sp := fun vs H Q _ => ∃ s, vs = [.str s] ∧ nameS s = true ∧ ∀ H', Ex H H' → Q (.bl true) H'
theorem ok_name (T : TxtZ K mg c b o z) : FnOk P w K mg base CX0 1 z.IsName z.fdIsName ["thing"] spName := by
  refine T.fIsName.ok scIsName (fun vs H Q E h => ?_) (fun cdv A outer s H vs Q E hr h => ?_)
  · obtain ⟨s, rfl, _⟩ := h
    rfl
  · obtain ⟨s, rfl, hs, k⟩ := h
    refine ⟨_, (pss_cons (ps_if (PW.pt (pw_or (pt_not (pt_val (pe_callB (id := "isinstance") (r := rIsi K) call_isi (by rfl) T.bisinstance (by decide +kernel) (pa_cons (pv 0) (pa_cons (pe_bltn (v := .ty "str") (by rfl) T.bstr (by decide +kernel) rfl) pa_nil))))) (pw_or1 (pt_not (pt_chain op_le op_le pe_int (pe_callB call_len (by rfl) T.blen (by decide +kernel) (pa_cons (pv 0) pa_nil)) (pe_glob (v := .int 8) rfl T.mgLongestWord ⟨_, rfl⟩)))))) (pss_one (ps_ret (by exact pe_bl))) pss_nil)
      (pss_one (ps_ret (by exact (pe_callB (cr_all rfl) (by rfl) T.ball (by decide +kernel) (pa_cons (pe_lc (own := [("sign", 1)]) (g := gName 1) (tt := tYes) rfl scIsName.nd (pi_str (pv 0)) (blkOk_by (own := [("sign", 1)]) (N := NIsName) (sc := defScope sIsName) (by decide +kernel)) (fun _ _ _ _ _ => pg_name (i := 1) scIsName.nd rfl (Or.inl rfl)) (fun _ _ _ _ _ => by exact pts_nil) (fun _ _ _ _ _ => by exact (pe_chain op_le_str op_le_str pe_str (pv 1) pe_str))) pa_nil)))))), ?_⟩
    have v0 : ∀ H', Ev (tVar 0) (start NIsName [.str s]) H' (.str s) := fun H' => ev_var rfl
    obtain ⟨q1, q2⟩ := Bool.and_eq_true_iff.mp hs
    have hl : s.length ≤ 40000 := by
      have q := q1
      unfold KC.lenB at q
      simp at q
      omega
    have hd : Da K H (.str s) (.str s) := .str s (by omega)
    refine s_when (b := false) (et_or (a := false) (b := false) (et_not (a := true) (et_test (ev_isi (d := .str s) (by decide) (v0 _) hd))) fun _ => et_not (a := true) (et_test ?_)) (fun hb => by cases hb) fun hb H1 e1 => ?_
    · have e : (decide ((1 : Int) ≤ (s.length : Int)) && decide ((s.length : Int) ≤ 8)) = true := q1
      rw [← e]
      exact ev_chain ev_c (ev_lenS (v0 _) (by omega)) rv_I0 ev_c rv_I0
    · dsimp only
      refine s_ret (v := .bl true) ?_ fun H2 e2 => k H2 (e1.trans e2)
      rw [← q2]
      exact ev_allS KC.letterC (ev_var (by rfl)) hl (fun _ => rfl) fun c H3 e3 => ev_chain ev_c (ev_var (by rfl)) rv_leS ev_c rv_leS
def spCH (C : Addr) : Sp := fun vs H Q _ => ∃ x, vs = [.ref x] ∧ HsW C H x ∧ ∀ H', Ex H H' → Q .non H'
theorem ok_checkHouse (T : TxtZ K mg c b o z) : FnOk P w K mg base CX0 1 z.CheckHouse z.fdCheckHouse ["house"] (spCH o.House) := by
  refine T.fCheckHouse.ok scCheckHouse (fun vs H Q E h => ?_) (fun cdv A outer s H vs Q E hr h => ?_)
  · obtain ⟨x, rfl, _⟩ := h
    rfl
  · obtain ⟨x, rfl, ⟨dx, l, st, ky, rw1, t, hx⟩, k⟩ := h
    refine ⟨_, (pss_one (ps_if (pt_not (pt_val (pe_callB (id := "isinstance") (r := rIsi K) call_isi (by rfl) T.bisinstance (by decide +kernel) (pa_cons (pv 0) (pa_cons (pe_glob (v := .ref o.House) rfl T.gHouse rfl) pa_nil))))) (pss_one XK.ps_nvr) pss_nil)), ?_⟩
    exact s_when (b := false) (et_not (a := true) (et_test (ev_isHo (ev_var (by rfl)) ev_c (fun H1 e1 => .base (.ins (e1 _ _ hx) T.cl T.hca T.hcn T.hct T.hcm)) (if_pos (by simp))))) (fun hb => by cases hb) fun hb H1 e1 => k H1 e1
/-- the same house: its text is its text -/
def spEqW (C : Addr) : Sp := fun vs H Q _ => ∃ x, vs = [.ref x, .ref x] ∧ HsW C H x ∧ ∀ H', Ex H H' → Q (.bl true) H'
theorem ok_heq (T : TxtZ K mg c b o z) : FnOk P w K mg base CX0 1 z.HEq z.fdHEq ["self", "other"] (spEqW o.House) := by
  refine T.fHEq.ok scHouseEq (fun vs H Q E h => ?_) (fun cdv A outer s H vs Q E hr h => ?_)
  · obtain ⟨x, rfl, _⟩ := h
    rfl
  · obtain ⟨x, rfl, ⟨dx, l, st, ky, rw1, t, hx⟩, k⟩ := h
    refine ⟨_, (pss_one (ps_ret (by exact (pe_and (pe_callB (id := "isinstance") (r := rIsi K) call_isi (by rfl) T.bisinstance (by decide +kernel) (pa_cons (pv 1) (pa_cons (pe_glob (v := .ref o.House) rfl T.gHouse rfl) pa_nil))) (pe_one (pe_cmpR op_eq (pe_fld (pv 0) rfl) (pe_fld (pv 1) rfl) (nomark _))))))), ?_⟩
    refine s_ret (v := .bl (true && true)) (ev_andV (ev_isHo (ev_var (by rfl)) ev_c (fun H1 e1 => .base (.ins (e1 _ _ hx) T.cl T.hca T.hcn T.hct T.hcm)) (if_pos (by simp))) fun _ => ?_) fun H1 e1 => k H1 e1
    refine ev_op (ev_fd (ev_var (by rfl)) hx T.cl T.n5 (by rfl)) (ev_fd (ev_var (by rfl)) hx T.cl T.n5 (by rfl)) fun H2 e2 Q2 q2 => ?_
    refine ⟨rfl, ?_⟩
    have e : decide (V.str t = V.str t) = true := decide_eq_true rfl
    first
      | (rw [e]; exact q2 H2 (Ex.refl _))
      | (show Q2 (.bl (decide (V.str t = V.str t))) H2; rw [e]; exact q2 H2 (Ex.refl _))
theorem units1 {k : Nat} {A : Around} (hr : Room k A) : A.units + 1 < cLine := by
  have := hr.units
  omega
theorem if_y {b : Bool} {X Y : Prop} (h : b = true) (x : X) : if b = true then X else Y := by rw [if_pos h]; exact x
theorem if_n {b : Bool} {X Y : Prop} (h : b = false) (y : Y) : if b = true then X else Y := by rw [if_neg (by rw [h]; exact Bool.false_ne_true)]; exact y
theorem if_b {b : Bool} {X Y : Prop} (x : b = true → X) (y : b = false → Y) : if b = true then X else Y := by
  cases b with
  | true => exact x rfl
  | false => exact y rfl
/-! pages are made -/
def spPageI (P : Addr) : Sp := fun vs H Q _ => ∃ x dx d wr bf k, vs = [.ref x, .ref d, .ref wr, bf] ∧ H x = some (.ins P dx []) ∧
  ((bf = .non ∧ k = 0) ∨ ∃ p dxp d' wr' bf' n, bf = .ref p ∧ H p = some (.ins P dxp (pgF d' wr' bf' n)) ∧ k = n + 1) ∧ Q .non (upd H x (.ins P dx (pgF d wr bf k)))
theorem ok_pageI (T : TxtZ K mg c b o z) : FnOk P w K mg base CX0 1 z.PageInit z.fdPageInit ["self", "houses", "wish_row", "before"] (spPageI z.Page) := by
  refine T.fPageInit.ok scPageInit (fun vs H Q E h => ?_) (fun cdv A outer s H vs Q E hr h => ?_)
  · obtain ⟨x, dx, d, wr, bf, k, rfl, _⟩ := h
    rfl
  · obtain ⟨x, dx, d, wr, bf, k, rfl, hx, hb, q⟩ := h
    refine ⟨_, (pss_cons (ps_fld (pv 0) (pv 1) rfl)
      (pss_cons (ps_fld (pv 0) (pv 2) rfl)
      (pss_cons (ps_fld (pv 0) (pv 3) rfl)
      (pss_one (ps_fld (pv 0) (pe_ifExp (pt_cmpR op_isN (pv 3) pe_non (nomark _)) pe_int (pe_op op_add (pe_fld (pv 3) rfl) pe_int)) rfl))))), ?_⟩
    dsimp only [tSeq, sFld]
    refine ⟨_, rfl, _, rfl, x, _, _, _, rfl, hx, T.clPage, T.nPageHouses, by show 0 < 1000; decide, ?_⟩
    refine ⟨_, rfl, _, rfl, x, _, _, _, rfl, upd_same, T.clPage, T.nPageWishRow, by show 1 < 1000; decide, ?_⟩
    refine ⟨_, rfl, _, rfl, x, _, _, _, rfl, upd_same, T.clPage, T.nPageBefore, by show 2 < 1000; decide, ?_⟩
    rw [upd_upd, upd_upd]
    rcases hb with ⟨rfl, rfl⟩ | ⟨p, dxp, d', wr', bf', n, rfl, hp, rfl⟩
    · refine ⟨_, rfl, rfl, _, rfl, if_y (by decide) ?_⟩
      refine ⟨_, rfl, x, _, _, _, rfl, upd_same, T.clPage, T.nPageDepth, by show 3 < 1000; decide, ?_⟩
      rw [upd_upd]
      exact q
    · have px : p ≠ x := fun z => by
        rw [z, hx] at hp
        injection hp with hp
        injection hp with _ _ hp
        cases hp
      refine ⟨_, rfl, rfl, _, rfl, if_n (decide_eq_false (fun z => by cases z)) ?_⟩
      refine ⟨_, rfl, p, _, _, _, _, rfl, by rw [upd_ne px]; exact hp, T.clPage, T.nPageDepth, rfl, ?_⟩
      refine ⟨_, _, rfl, rfl, ?_⟩
      refine ⟨_, rfl, x, _, _, _, rfl, upd_same, T.clPage, T.nPageDepth, by show 3 < 1000; decide, ?_⟩
      rw [upd_upd]
      exact q
end
end L2.KB

set_option Elab.async false
set_option maxRecDepth 100000
set_option maxHeartbeats 400000
set_option linter.all false
/-! Books: what is asked of them, how they turn. -/
namespace L2.KB
open PySem PySem.Spec PyProof.Rows XK Evl XC
section
variable {P : Program} {w : World} {K : PySem.W.Frag} {mg : Str → Option Value} {base : Heap} {c : KC.AdrC} {b : KC.AdrH} {o : KC.AdrO} {z : AdrZ}
/-- a book's parts at hand -/
theorem BookAt.open_ {G : List Addr} {H : Hp} {x : Addr} {m : Ms} {n : Nat} (h : BookAt K o z G H x m n) : ∃ dx p dxp d wr bf, H x = some (.ins z.Book dx (bkF p)) ∧ hd G H p = some (.ins z.Page dxp (pgF d wr bf n)) ∧ H p = some (.ins z.Page dxp (pgF d wr bf n)) ∧
    hd G H d = some (.dK (kvV m)) ∧ H d = some (.dK (kvV m)) ∧ SqT K (hd G H) wr [] ∧ (∀ q ∈ m, HsW o.House (hd G H) q.2) := by
  obtain ⟨dx, p, h1, h2⟩ := h.ob
  obtain ⟨dxp, d, wr, bf, g1, g2, g3⟩ := h2.ob
  exact ⟨dx, p, dxp, d, wr, bf, h1, g1, hdEx _ _ g1, g2, hdEx _ _ g2, g3, h2.hs⟩
theorem ev_dict {H : Hp} {x : Addr} {n : Nat} {dx p dxp d wr : Addr} {bf : V} (T : TxtZ K mg c b o z) {σ : L2.St} {i : Nat} (hi : σ[i]? = some (some (.ref x))) (h1 : H x = some (.ins z.Book dx (bkF p))) (h2 : H p = some (.ins z.Page dxp (pgF d wr bf n))) :
    Ev (tFld K (tFld K (tVar i) "page") "houses") σ H (.ref d) := ev_fd (ev_fd (ev_var hi) h1 T.clBook T.nBookPage rfl) h2 T.clPage T.nPageHouses rfl
theorem ev_din {σ : L2.St} {H : Hp} {ty td : TE} {k : Key} {a : Addr} {kvs : List (Key × V)} (h1 : Ev ty σ H (kV k)) (h2 : Ev td σ H (.ref a)) (ha : H a = some (.dK kvs)) : Ev (tDIn ty td) σ H (.bl (valV kvs k).isSome) := fun H1 e Q q =>
  h1 H1 e _ fun H2 e2 => h2 H2 (e.trans e2) _ fun H3 e3 => ⟨a, _, rfl, .k (((e.trans e2).trans e3) _ _ ha), q H3 (e2.trans e3)⟩
theorem ev_dnin {σ : L2.St} {H : Hp} {ty td : TE} {k : Key} {a : Addr} {kvs : List (Key × V)} (h1 : Ev ty σ H (kV k)) (h2 : Ev td σ H (.ref a)) (ha : H a = some (.dK kvs)) : Ev (tDNotIn ty td) σ H (.bl (!(valV kvs k).isSome)) := fun H1 e Q q =>
  h1 H1 e _ fun H2 e2 => h2 H2 (e.trans e2) _ fun H3 e3 => ⟨a, _, rfl, .k (((e.trans e2).trans e3) _ _ ha), q H3 (e2.trans e3)⟩
theorem ev_dget {σ : L2.St} {H : Hp} {ty td : TE} {k : Key} {a : Addr} {kvs : List (Key × V)} {v : V} (h1 : Ev ty σ H (kV k)) (h2 : Ev td σ H (.ref a)) (ha : H a = some (.dK kvs)) (hv : valV kvs k = some v) : Ev (tDGet td ty) σ H v := fun H1 e Q q =>
  h2 H1 e _ fun H2 e2 => h1 H2 (e.trans e2) _ fun H3 e3 => ⟨a, v, rfl, by rw [← hv]; exact .k (((e.trans e2).trans e3) _ _ ha), q H3 (e2.trans e3)⟩
/-! the properties -/
def spWishes (K : PySem.W.Frag) (o : KC.AdrO) (z : AdrZ) : Sp := fun vs H Q _ => ∃ G x m n, vs = [.ref x] ∧ BookAt K o z G H x m n ∧ ∀ t H', Ex H H' → SqT K H' t [] → Q (.ref t) H'
theorem ok_wishes (T : TxtZ K mg c b o z) : FnOk P w K mg base CX0 1 z.BookWishes z.fdBookWishes ["self"] (spWishes K o z) := by
  refine T.fBookWishes.ok scBookWishes (fun vs H Q E h => ?_) (fun cdv A outer s H vs Q E hr h => ?_)
  · obtain ⟨G, x, m, n, rfl, _⟩ := h
    rfl
  · obtain ⟨G, x, m, n, rfl, hb, k⟩ := h
    refine ⟨_, (pss_one (ps_ret (by exact (pe_fld (pe_fld (pv 0) rfl) rfl)))), ?_⟩
    obtain ⟨dx, p, dxp, d, wr, bf, h1, _, h2, _, h3, h4, h5⟩ := hb.open_
    exact s_ret (ev_fd (ev_fd (ev_var (by rfl)) h1 T.clBook T.nBookPage rfl) h2 T.clPage T.nPageWishRow (by rfl)) fun H1 e1 => k wr H1 e1 (ex_t e1 (ex_t hdEx h4))
def spChanges (K : PySem.W.Frag) (o : KC.AdrO) (z : AdrZ) : Sp := fun vs H Q _ => ∃ G x m n, vs = [.ref x] ∧ BookAt K o z G H x m n ∧ ∀ H', Ex H H' → Q (.int (n : Int)) H'
theorem ok_changes (T : TxtZ K mg c b o z) : FnOk P w K mg base CX0 1 z.BookChanges z.fdBookChanges ["self"] (spChanges K o z) := by
  refine T.fBookChanges.ok scBookChanges (fun vs H Q E h => ?_) (fun cdv A outer s H vs Q E hr h => ?_)
  · obtain ⟨G, x, m, n, rfl, _⟩ := h
    rfl
  · obtain ⟨G, x, m, n, rfl, hb, k⟩ := h
    refine ⟨_, (pss_one (ps_ret (by exact (pe_fld (pe_fld (pv 0) rfl) rfl)))), ?_⟩
    obtain ⟨dx, p, dxp, d, wr, bf, h1, _, h2, _, h3, h4, h5⟩ := hb.open_
    exact s_ret (ev_fd (ev_fd (ev_var (by rfl)) h1 T.clBook T.nBookPage rfl) h2 T.clPage T.nPageDepth (by rfl)) fun H1 e1 => k H1 e1
def spNames (K : PySem.W.Frag) (o : KC.AdrO) (z : AdrZ) : Sp := fun vs H Q _ => ∃ G x m n, vs = [.ref x] ∧ BookAt K o z G H x m n ∧ ∀ ss t H', ss.Perm (m.map (·.1)) → sortedS ss = true → Ex H H' → H' t = some (.tup (ss.map V.str)) → Q (.ref t) H'
theorem kv_keys (m : Ms) : ((kvV m).map fun kv => kV kv.1) = (m.map (·.1)).map V.str := by
  unfold kvV
  rw [List.map_map, List.map_map]
  rfl
theorem ok_names (T : TxtZ K mg c b o z) : FnOk P w K mg base CX0 1 z.BookNames z.fdBookNames ["self"] (spNames K o z) := by
  refine T.fBookNames.ok scBookNames (fun vs H Q E h => ?_) (fun cdv A outer s H vs Q E hr h => ?_)
  · obtain ⟨G, x, m, n, rfl, _⟩ := h
    rfl
  · obtain ⟨G, x, m, n, rfl, hb, k⟩ := h
    refine ⟨_, (pss_one (ps_ret (by exact (pe_callTy call_tuple_of (by rfl) T.btuple (by decide +kernel) (pa_cons (pe_callB (r := rSortedS K) cr_sortedS (by rfl) T.bsorted (by decide +kernel) (pa_cons (pe_callTy (call_listD rfl) (by rfl) T.blist (by decide +kernel) (pa_cons (pe_fld (pe_fld (pv 0) rfl) rfl) pa_nil)) pa_nil)) pa_nil))))), ?_⟩
    obtain ⟨dx, p, dxp, d, wr, bf, h1, _, h2, _, h3, h4, h5⟩ := hb.open_
    refine ⟨_, rfl, x, _, _, _, _, rfl, h1, T.clBook, T.nBookPage, rfl, p, _, _, _, _, rfl, h2, T.clPage, T.nPageHouses, rfl, ?_⟩
    refine ⟨d, kvV m, rfl, .inl h3, fun l hl => ?_⟩
    have hz := hb.sz
    refine ⟨l, m.map (·.1), rfl, sq_of (by rw [upd_same, kv_keys]), by rw [List.length_map]; omega, fun ys p2 perm srt hp2 => ?_⟩
    refine ⟨p2, ys.map V.str, rfl, .inl ⟨sq_of upd_same, fun t ht => ?_⟩⟩
    have e1 := Ex.new (o := .lst ((kvV m).map fun kv => kV kv.1)) hl
    have e2 := Ex.new (o := .lst (ys.map V.str)) hp2
    have e3 := Ex.new (o := .tup (ys.map V.str)) ht
    exact k ys t _ perm srt ((e1.trans e2).trans e3) upd_same
/-! len, bool, in -/
def spBkLen (K : PySem.W.Frag) (o : KC.AdrO) (z : AdrZ) : Sp := fun vs H Q _ => ∃ G x m n, vs = [.ref x] ∧ BookAt K o z G H x m n ∧ ∀ H', Ex H H' → Q (.int (m.length : Int)) H'
theorem ok_bkLen (T : TxtZ K mg c b o z) : FnOk P w K mg base CX0 1 z.BookLen z.fdBookLen ["self"] (spBkLen K o z) := by
  refine T.fBookLen.ok scBookLen (fun vs H Q E h => ?_) (fun cdv A outer s H vs Q E hr h => ?_)
  · obtain ⟨G, x, m, n, rfl, _⟩ := h
    rfl
  · obtain ⟨G, x, m, n, rfl, hb, k⟩ := h
    refine ⟨_, (pss_one (ps_ret (by exact (pe_callB call_lenD (by rfl) T.blen (by decide +kernel) (pa_cons (pe_fld (pe_fld (pv 0) rfl) rfl) pa_nil))))), ?_⟩
    obtain ⟨dx, p, dxp, d, wr, bf, h1, _, h2, _, h3, h4, h5⟩ := hb.open_
    refine ⟨_, rfl, x, _, _, _, _, rfl, h1, T.clBook, T.nBookPage, rfl, p, _, _, _, _, rfl, h2, T.clPage, T.nPageHouses, rfl, ?_⟩
    refine ⟨d, kvV m, rfl, h3, ?_⟩
    have e : (kvV m).length = m.length := List.length_map _
    rw [e]
    exact k H (Ex.refl _)
def spBkBool (z : AdrZ) : Sp := fun vs H Q _ => ∃ x dx fs, vs = [.ref x] ∧ H x = some (.ins z.Book dx fs) ∧ ∀ H', Ex H H' → Q (.bl true) H'
theorem ok_bkBool (T : TxtZ K mg c b o z) : FnOk P w K mg base CX0 1 z.BookBool z.fdBookBool ["self"] (spBkBool z) := by
  refine T.fBookBool.ok scBookBool (fun vs H Q E h => ?_) (fun cdv A outer s H vs Q E hr h => ?_)
  · obtain ⟨x, dx, fs, rfl, _⟩ := h
    rfl
  · obtain ⟨x, dx, fs, rfl, hx, k⟩ := h
    refine ⟨_, (pss_one (ps_ret (by exact pe_bl))), ?_⟩
    exact k H (Ex.refl _)
def inM (d : PyData) (m : Ms) : Bool := match d with
  | .str s => (m.lookup s).isSome
  | _ => false
def spBkIn (K : PySem.W.Frag) (o : KC.AdrO) (z : AdrZ) : Sp := fun vs H Q _ => ∃ G x y d m n, vs = [.ref x, y] ∧ BookAt K o z G H x m n ∧ Da K H y d ∧ ∀ H', Ex H H' → Q (.bl (inM d m)) H'
theorem in_dict {m : Ms} {s : Str} : (valV (kvV m) (Sum.inr s)).isSome = (m.lookup s).isSome := by rw [valV_kv, Option.isSome_map]
theorem ok_bkIn (T : TxtZ K mg c b o z) : FnOk P w K mg base CX0 1 z.BookContains z.fdBookContains ["self", "x"] (spBkIn K o z) := by
  refine T.fBookContains.ok scBookContains (fun vs H Q E h => ?_) (fun cdv A outer s H vs Q E hr h => ?_)
  · obtain ⟨G, x, y, d, m, n, rfl, _⟩ := h
    rfl
  · obtain ⟨G, x, y, dt, m, n, rfl, hb, hy, k⟩ := h
    refine ⟨_, (pss_one (ps_ret (by exact (pe_and (pe_callB (id := "isinstance") (r := rIsi K) call_isi (by rfl) T.bisinstance (by decide +kernel) (pa_cons (pv 1) (pa_cons (pe_bltn (v := .ty "str") (by rfl) T.bstr (by decide +kernel) rfl) pa_nil))) (pe_one (L2.pe_cmp (pc_din (units1 hr) (pv 1) (pe_fld (pe_fld (pv 0) rfl) rfl)))))))), ?_⟩
    obtain ⟨dx, p, dxp, d, wr, bf, h1, _, h2, _, h3, h4, h5⟩ := hb.open_
    have e : (isD "str" dt && inM dt m) = inM dt m := by cases dt <;> first | rfl | (simp only [inM]; rfl)
    have fin : ∀ H', Ex H H' → Q (.bl (isD "str" dt && inM dt m)) H' := fun H' e' => by rw [e]; exact k H' e'
    refine s_ret (ev_andV (ev_isi (by decide) (ev_var (by rfl)) hy) fun hs => ?_) fin
    obtain ⟨s', rfl⟩ := isD_str hs
    cases hy with
    | str _ hz =>
      show Ev _ _ _ (.bl (m.lookup s').isSome)
      rw [← in_dict]
      exact ev_din (ev_var (by rfl)) (ev_dict T (by rfl) h1 h2) h3
/-! who is not known -/
def spKnown (K : PySem.W.Frag) (o : KC.AdrO) (z : AdrZ) : Sp := fun vs H Q E => ∃ G x y d m n, vs = [.ref x, y] ∧ BookAt K o z G H x m n ∧ Da K H y d ∧ (inM d m = true → ∀ H', Ex H H' → Q .non H') ∧
  (inM d m = false → ∀ dd H', H dd = none → Ex H H' → H' dd = some (.xd [(("given" : Str), y)]) → E (.ref z.UnknownName) (some dd) H')
theorem ok_known (T : TxtZ K mg c b o z) : FnOk P w K mg base (L2N.CX P w) 3 z.BookCheckKnown z.fdBookCheckKnown ["self", "name"] (spKnown K o z) := by
  have GBookContains : FnOk P w K mg base CX0 1 z.BookContains z.fdBookContains ["self", "x"] (spBkIn K o z) := ok_bkIn T
  refine Fun.okN T.fBookCheckKnown scBookCheckKnown (fun vs H Q E h => ?_) (fun cdv A outer s H vs Q E hr h => ?_)
  · obtain ⟨G, x, y, d, m, n, rfl, _⟩ := h
    rfl
  · obtain ⟨G, x, y, dt, m, n, rfl, hb, hy, kT, kE⟩ := h
    refine ⟨_, (pss_one (ps_if (pt_cmpR (r := XK.rNotInOwn z.Book (spBkIn K o z) E0) (XK.op_notInOwn T.hBookContains T.fnBookContains GBookContains T.bBookContains (hr.mono (by decide)) pass0) (pv 1) (pv 0) (by rfl)) (pss_one (L2N.ps_raise rfl (L2N.takes_of rfl rfl rfl rfl) (XK.pmk_x (XK.mkGvP T.cUnknownName (hr.mono (by decide) : Room 1 _)) XK.hlOne T.cUnknownName.kC T.gUnknownName (T.rUnknownName.raises) (pa_cons (pv 1) pa_nil)))) pss_nil)), ?_⟩
    obtain ⟨dx, p, h1, _⟩ := hb.ob
    have hin : Ev (tOp (rNotInOwn z.Book (spBkIn K o z) E0) (tVar 1) (tVar 0)) (start NBookCheckKnown [.ref x, y]) H (.bl (!inM dt m)) := fun H1 e Q' q' =>
      ⟨y, rfl, _, rfl, x, dx, _, rfl, e _ _ h1, G, x, y, dt, m, n, rfl, hb.ex e, hy.ex e, fun H2 e2 => ⟨_, rfl, q' H2 e2⟩⟩
    refine s_when (et_test hin) (fun hb' H1 e1 => ?_) fun hb' H1 e1 => ?_
    · exact s_raise (W := fun cls d _ H => E cls d H) (ea_cons (ev_var (by rfl)) ea_nil) rfl fun d H2 hd2 e2 h2 => kE (by simpa using hb') d H2 (fresh_back e1 hd2) (e1.trans e2) h2
    · exact kT (by simpa using hb') H1 e1
def spGetB (K : PySem.W.Frag) (o : KC.AdrO) (z : AdrZ) : Sp := fun vs H Q E => ∃ G x y d m n, vs = [.ref x, y] ∧ BookAt K o z G H x m n ∧ Da K H y d ∧ (∀ s a, d = .str s → m.lookup s = some a → ∀ H', Ex H H' → Q (.ref a) H') ∧
  (inM d m = false → ∀ dd H', H dd = none → Ex H H' → H' dd = some (.xd [(("given" : Str), y)]) → E (.ref z.UnknownName) (some dd) H')
theorem ok_getB (T : TxtZ K mg c b o z) : FnOk P w K mg base (L2N.CX P w) 3 z.BookGetitem z.fdBookGetitem ["self", "at"] (spGetB K o z) := by
  refine Fun.okN T.fBookGetitem scBookGetitem (fun vs H Q E h => ?_) (fun cdv A outer s H vs Q E hr h => ?_)
  · obtain ⟨G, x, y, d, m, n, rfl, _⟩ := h
    rfl
  · obtain ⟨G, x, y, dt, m, n, rfl, hb, hy, kT, kE⟩ := h
    refine ⟨_, (pss_cons (ps_if (PW.pt (pw_or (pt_not (pt_val (pe_callB (id := "isinstance") (r := rIsi K) call_isi (by rfl) T.bisinstance (by decide +kernel) (pa_cons (pv 1) (pa_cons (pe_bltn (v := .ty "str") (by rfl) T.bstr (by decide +kernel) rfl) pa_nil))))) (pw_or1 (L2.pt_cmp (pc_dnotin (units1 hr) (pv 1) (pe_fld (pe_fld (pv 0) rfl) rfl)))))) (pss_one (L2N.ps_raise rfl (L2N.takes_of rfl rfl rfl rfl) (XK.pmk_x (XK.mkGvP T.cUnknownName (hr.mono (by decide) : Room 1 _)) XK.hlOne T.cUnknownName.kC T.gUnknownName (T.rUnknownName.raises) (pa_cons (pv 1) pa_nil)))) pss_nil)
      (pss_one (ps_ret (by exact (pe_dget (units1 hr) (pe_fld (pe_fld (pv 0) rfl) rfl) (pv 1) (fun _ _ => rfl)))))), ?_⟩
    obtain ⟨dx, p, dxp, d, wr, bf, h1, _, h2, _, h3, h4, h5⟩ := hb.open_
    have e : (!isD "str" dt || !inM dt m) = !inM dt m := by cases dt <;> first | rfl | (simp only [inM]; rfl)
    refine s_when (b := !inM dt m) ?_ (fun hb' H1 e1 => ?_) fun hb' H1 e1 => ?_
    · rw [← e]
      refine et_or (et_not (et_test (ev_isi (by decide) (ev_var (by rfl)) hy))) fun hs => ?_
      obtain ⟨s', rfl⟩ := isD_str (d := dt) (by simpa using hs)
      cases hy with
      | str _ hz =>
        show EvT _ _ _ (!(m.lookup s').isSome)
        rw [← in_dict]
        exact et_test (ev_dnin (ev_var (by rfl)) (ev_dict T (by rfl) h1 h2) h3)
    · exact s_raise (W := fun cls d _ H => E cls d H) (ea_cons (ev_var (by rfl)) ea_nil) rfl fun d H2 hd2 e2 h2 => kE (by simpa using hb') d H2 (fresh_back e1 hd2) (e1.trans e2) h2
    · have hm : inM dt m = true := by simpa using hb'
      obtain ⟨s', rfl⟩ : ∃ s', dt = .str s' := by
        cases dt <;> first | (cases hm; done) | exact ⟨_, rfl⟩
      obtain ⟨a, ha⟩ := Option.isSome_iff_exists.mp (show (m.lookup s').isSome = true from hm)
      cases hy with
      | str _ hz =>
        dsimp only
        refine s_ret (v := .ref a) (ev_dget (k := Sum.inr s') (ev_var (by rfl)) (ev_dict T (by rfl) (e1 _ _ h1) (e1 _ _ h2)) (e1 _ _ h3) (by rw [valV_kv, ha]; rfl)) fun H2 e2 => kT s' a rfl ha H2 (e1.trans e2)
end
end L2.KB

set_option Elab.async false
set_option maxRecDepth 100000
set_option maxHeartbeats 400000
set_option linter.all false
/-! Books: houses come under names, and go. -/
namespace L2.KB
open PySem PySem.Spec PyProof.Rows XK Evl XC
/-! walks by hand -/
section
variable {J : It} {wi : TI} {g : TG} {tb : TS} {tt : TT} {te tk tv : TE} {vs : List Nat} {En : Ends} {σ : L2.St} {H : Hp} {Q : VK}
theorem for_run (n : Nat) (P1 : Hp → Prop) (I : Nat → L2.St → Hp → Prop) (hw : ∀ R : It → Hp → Prop, (∀ H1, P1 H1 → R J H1) → wi σ H R) (h0 : ∀ H1, P1 H1 → I 0 σ H1) (hstop : ∀ σ' H', I n σ' H' → J.stop n H')
    (hgo : ∀ i σ' H', i < n → I i σ' H' → J.go i H' ∧ ∀ y H2, J.yld i H' y H2 → ∀ N : L2.St → Hp → Prop, (∀ σ2 H3, I (i + 1) σ2 H3 → N σ2 H3) → g y σ' H2 fun σ2 H3 => tb { En with nx := N, ct := N, bk := En.nx } σ2 H3)
    (k : ∀ σ' H', I n σ' H' → En.nx σ' H') : tFor wi g tb En σ H := by
  refine hw _ fun H1 p1 => ⟨fun i t σ' H' => t = n - i ∧ i ≤ n ∧ I i σ' H', ⟨n, rfl, Nat.zero_le _, h0 H1 p1⟩, fun i t σ' H' ⟨h1, h2, h3⟩ => ?_⟩
  by_cases hi : i < n
  · right
    obtain ⟨g1, g2⟩ := hgo i σ' H' hi h3
    exact ⟨g1, fun σ2 H3 => I (i + 1) σ2 H3, fun σ2 H3 q => ⟨n - (i + 1), by omega, rfl, by omega, q⟩, fun y H2 hy => g2 y H2 hy _ fun _ _ q => q⟩
  · left
    obtain rfl : i = n := by omega
    exact ⟨hstop _ _ h3, k _ _ h3⟩
theorem lc_run (n : Nat) (P1 : Hp → Prop) (I : Addr → Nat → Hp → Prop) (hw : ∀ R : It → Hp → Prop, (∀ H1, P1 H1 → R J H1) → wi σ H R) (h0 : ∀ D H1, P1 H1 → H1 D = none → I D 0 (upd H1 D (.lst []))) (hstop : ∀ D H', I D n H' → J.stop n H')
    (hgo : ∀ D i H', i < n → I D i H' → J.go i H' ∧ ∀ y H2, J.yld i H' y H2 → ∀ Nx : Hp → Prop, (∀ H6, I D (i + 1) H6 → Nx H6) → g y (wipe σ vs) H2 fun σ2 H3 => wipe σ2 vs = wipe σ vs ∧ tt σ2 H3 fun b H4 =>
      if b = true then te σ2 H4 fun v H5 => ∃ acc, H5 D = some (.lst acc) ∧ acc.length < sizeLine ∧ Nx (upd H5 D (.lst (acc ++ [v]))) else Nx H4)
    (k : ∀ D H', I D n H' → Q (.ref D) H') : tLc wi g tt te vs σ H Q := by
  refine hw _ fun H1 p1 D hD => ⟨fun i t H' => t = n - i ∧ i ≤ n ∧ I D i H', ⟨n, rfl, Nat.zero_le _, h0 D H1 p1 hD⟩, fun i t H' ⟨h1, h2, h3⟩ => ?_⟩
  by_cases hi : i < n
  · right
    obtain ⟨g1, g2⟩ := hgo D i H' hi h3
    exact ⟨g1, fun H3 => I D (i + 1) H3, fun H3 q => ⟨n - (i + 1), by omega, rfl, by omega, q⟩, fun y H2 hy => g2 y H2 hy _ fun _ q => q⟩
  · left
    obtain rfl : i = n := by omega
    exact ⟨hstop _ _ h3, k _ _ h3⟩
theorem dc_run (n : Nat) (P1 : Hp → Prop) (I : Addr → Nat → Hp → Prop) (hw : ∀ R : It → Hp → Prop, (∀ H1, P1 H1 → R J H1) → wi σ H R) (h0 : ∀ D H1, P1 H1 → H1 D = none → I D 0 (upd H1 D (.dK []))) (hstop : ∀ D H', I D n H' → J.stop n H')
    (hgo : ∀ D i H', i < n → I D i H' → J.go i H' ∧ ∀ y H2, J.yld i H' y H2 → ∀ Nx : Hp → Prop, (∀ H6, I D (i + 1) H6 → Nx H6) → g y (wipe σ vs) H2 fun σ2 H3 => wipe σ2 vs = wipe σ vs ∧ tt σ2 H3 fun b H4 =>
      if b = true then tk σ2 H4 fun y' H5 => tv σ2 H5 fun v H6 => ∃ kvs k, y' = kV k ∧ H6 D = some (.dK kvs) ∧ kvs.length < sizeLine ∧ Nx (upd H6 D (.dK (putK kvs k v))) else Nx H4)
    (k : ∀ D H', I D n H' → Q (.ref D) H') : tDc wi g tt tk tv vs σ H Q := by
  refine hw _ fun H1 p1 D hD => ⟨fun i t H' => t = n - i ∧ i ≤ n ∧ I D i H', ⟨n, rfl, Nat.zero_le _, h0 D H1 p1 hD⟩, fun i t H' ⟨h1, h2, h3⟩ => ?_⟩
  by_cases hi : i < n
  · right
    obtain ⟨g1, g2⟩ := hgo D i H' hi h3
    exact ⟨g1, fun H3 => I D (i + 1) H3, fun H3 q => ⟨n - (i + 1), by omega, rfl, by omega, q⟩, fun y H2 hy => g2 y H2 hy _ fun _ q => q⟩
  · left
    obtain rfl : i = n := by omega
    exact ⟨hstop _ _ h3, k _ _ h3⟩
/-- nothing is walked -/
theorem for_nilL {K : PySem.W.Frag} {tl : TE} {l : Addr} (h : Ev tl σ H (.ref l)) (hl : H l = some (.lst [])) (k : ∀ H', Ex H H' → En.nx σ H') : tFor (iList K tl) g tb En σ H := by
  refine for_run (J := Itl K l) 0 (fun H1 => Ex H H1) (fun i σ' H' => σ' = σ ∧ Ex H H') (fun R r => ?_) (fun H1 e => ⟨rfl, e⟩) (fun σ' H' p => ?_) (fun i σ' H' hi => absurd hi (Nat.not_lt_zero _)) (fun σ' H' p => ?_)
  · exact h H (Ex.refl _) _ fun H2 e2 => ⟨l, rfl, ⟨_, sq_of (e2 _ _ hl)⟩, r H2 e2⟩
  · exact ⟨[], sq_of (p.2 _ _ hl), Nat.le_refl _⟩
  · obtain ⟨rfl, e⟩ := p
    exact k H' e
theorem for_nilE {K : PySem.W.Frag} {tl : TE} {l : Addr} (h : Ev tl σ H (.ref l)) (hl : SqT K H l []) (k : ∀ H', Ex H H' → En.nx σ H') : tFor (iEnumT K (tCons tl tNil)) g tb En σ H := by
  refine for_run (J := IteT K l) 0 (fun H1 => Ex H H1) (fun i σ' H' => σ' = σ ∧ Ex H H') (fun R r => ?_) (fun H1 e => ⟨rfl, e⟩) (fun σ' H' p => ?_) (fun i σ' H' hi => absurd hi (Nat.not_lt_zero _)) (fun σ' H' p => ?_)
  · exact h H (Ex.refl _) _ fun H2 e2 => ⟨l, [], rfl, ex_t e2 hl, r H2 e2⟩
  · exact ⟨[], ex_t p.2 hl, Nat.le_refl _⟩
  · obtain ⟨rfl, e⟩ := p
    exact k H' e
theorem lc_nilE {K : PySem.W.Frag} {tl : TE} {l : Addr} (h : Ev tl σ H (.ref l)) (hl : SqT K H l []) (k : ∀ D H', Ex H H' → H' D = some (.lst []) → Q (.ref D) H') : tLc (iEnumT K (tCons tl tNil)) g tt te vs σ H Q := by
  refine lc_run (J := IteT K l) 0 (fun H1 => Ex H H1) (fun D i H' => Ex H H' ∧ H' D = some (.lst [])) (fun R r => ?_) (fun D H1 e hD => ⟨e.trans (Ex.new hD), upd_same⟩) (fun D H' p => ?_) (fun D i H' hi => absurd hi (Nat.not_lt_zero _)) (fun D H' p => k D H' p.1 p.2)
  · exact h H (Ex.refl _) _ fun H2 e2 => ⟨l, [], rfl, ex_t e2 hl, r H2 e2⟩
  · exact ⟨[], ex_t p.1 hl, Nat.le_refl _⟩
end
section
variable {P : Program} {w : World} {K : PySem.W.Frag} {mg : Str → Option Value} {base : Heap} {c : KC.AdrC} {b : KC.AdrH} {o : KC.AdrO} {z : AdrZ}
/-! what is asked of wishes where there are none -/
def spAskI (z : AdrZ) : Sp := fun vs H Q _ => ∃ x dx v, vs = [.ref x, v] ∧ H x = some (.ins z.Asked dx []) ∧ ∀ H', But x H H' → Q .non H'
theorem ok_askI (T : TxtZ K mg c b o z) : FnOk P w K mg base CX0 1 z.AskedInit z.fdAskedInit ["self", "houses"] (spAskI z) := by
  refine T.fAskedInit.ok scAskedInit (fun vs H Q E h => ?_) (fun cdv A outer s H vs Q E hr h => ?_)
  · obtain ⟨x, dx, v, rfl, _⟩ := h
    rfl
  · obtain ⟨x, dx, v, rfl, hx, k⟩ := h
    refine ⟨_, (pss_cons (ps_fld (pv 0) (pv 1) rfl)
      (pss_one (ps_fld (pv 0) pe_dnewK rfl))), ?_⟩
    dsimp only [tSeq, sFld]
    refine ⟨_, rfl, _, rfl, x, _, _, _, rfl, hx, T.clAsked, T.nAskedHouses, by show 0 < 1000; decide, ?_⟩
    intro d hd
    have dx' : d ≠ x := fun z => by
      rw [z, upd_same] at hd
      cases hd
    refine ⟨_, rfl, x, _, _, _, rfl, by rw [upd_ne (Ne.symm dx')]; exact upd_same, T.clAsked, T.nAskedKnown, by show 1 < 1000; decide, ?_⟩
    exact k _ (((But.up).trans (But.ex (Ex.new hd))).trans But.up)
def spCW : Sp := fun vs H Q _ => ∃ d wr l, vs = [.ref d, .ref wr, .ref l] ∧ H l = some (.lst []) ∧ ∀ H', Ex H H' → Q .non H'
/-- an instance is new: all else stays -/
theorem made_ex {H H' : Hp} {x dx C : Addr} (hx : H x = none) (hdx : H dx = none) (h : But x (upd (upd H dx (.own x)) x (.ins C dx [])) H') : Ex H H' := fun a u e => by
  have ax : a ≠ x := fun z => by rw [z, hx] at e; cases e
  have ad : a ≠ dx := fun z => by rw [z, hdx] at e; cases e
  exact h a u ax (by rw [upd_ne ax, upd_ne ad]; exact e)
theorem ok_cw (T : TxtZ K mg c b o z) : FnOk P w K mg base CX0 3 z.CheckWishes z.fdCheckWishes ["houses", "wish_row", "touched"] spCW := by
  have GAskedInit : FnOk P w K mg base CX0 1 z.AskedInit z.fdAskedInit ["self", "houses"] (spAskI z) := ok_askI T
  refine T.fCheckWishes.ok scCheckWishes (fun vs H Q E h => ?_) (fun cdv A outer s H vs Q E hr h => ?_)
  · obtain ⟨d, wr, l, rfl, _⟩ := h
    rfl
  · obtain ⟨d, wr, l, rfl, hl, k⟩ := h
    refine ⟨_, (pss_cons (ps_set (i := 3) scCheckWishes.nd rfl (by first | exact Or.inl rfl | exact Or.inr rfl) (by exact (pe_make T.mkAsked GAskedInit (hr.mono (by decide)) (by rfl) T.gAsked T.bAskedInit .nil pass0 (pa_cons (pv 0) pa_nil))))
      (pss_cons (ps_for (by first | exact PassesOwn.never | exact PassesOwn.leaving) rfl (pi_list (pv 2)) (pg_name (i := 4) scCheckWishes.nd rfl (by first | exact Or.inl rfl | exact Or.inr rfl)) (pss_one XK.ps_nvr))
      (pss_one (ps_for (by first | exact PassesOwn.never | exact PassesOwn.leaving) rfl (pi_list (pv 2)) (pg_name (i := 4) scCheckWishes.nd rfl (by first | exact Or.inl rfl | exact Or.inr rfl)) (pss_cons XK.ps_nvr (pss_one XK.ps_nvr)))))), ?_⟩
    dsimp only [tSeq, tAsg, gName]
    refine ⟨_, rfl, ?_⟩
    intro x dx hx hdx hne
    refine ⟨x, dx, _, rfl, upd_same, fun H1 b1 => ⟨rfl, ?_⟩⟩
    have e1 := made_ex hx hdx b1
    refine for_nilL (ev_var (by rfl)) (e1 _ _ hl) fun H2 e2 => ?_
    dsimp only
    refine for_nilL (ev_var (by rfl)) ((e1.trans e2) _ _ hl) fun H3 e3 => ?_
    exact k H3 ((e1.trans e2).trans e3)
/-! a book is made -/
def spBookI (K : PySem.W.Frag) (o : KC.AdrO) (z : AdrZ) : Sp := fun vs H Q _ => ∃ x dx, vs = [.ref x] ∧ H x = some (.ins z.Book dx []) ∧
  ∀ H' p, But x H H' → H' x = some (.ins z.Book dx (bkF p)) → (∀ G : List Addr, (∀ a ∈ G, (H a).isSome = true) → PageAt K z.Page o.House (hd G H') p [] 0) → Q .non H'
theorem ok_bookI (T : TxtZ K mg c b o z) : FnOk P w K mg base CX0 3 z.BookInit z.fdBookInit ["self"] (spBookI K o z) := by
  have GPageInit : FnOk P w K mg base CX0 1 z.PageInit z.fdPageInit ["self", "houses", "wish_row", "before"] (spPageI z.Page) := ok_pageI T
  refine T.fBookInit.ok scBookInit (fun vs H Q E h => ?_) (fun cdv A outer s H vs Q E hr h => ?_)
  · obtain ⟨x, dx, rfl, _⟩ := h
    rfl
  · obtain ⟨x, dx, rfl, hx, k⟩ := h
    refine ⟨_, (pss_one (ps_fld (pv 0) (pe_make T.mkPage GPageInit (hr.mono (by decide)) (by rfl) T.gPage T.bPageInit .nil pass0 (pa_cons pe_dnewK (pa_cons (pe_tup pa_nil) (pa_cons pe_non pa_nil)))) rfl)), ?_⟩
    dsimp only [sFld]
    intro d hd0
    refine ⟨by show 0 ≤ sizeLine; decide, fun t ht => ?_⟩
    intro p dxp hp hdp hne
    have ht0 : H t = none := by
      cases q : H t with
      | none => rfl
      | some u => rw [(Ex.new hd0) _ _ q] at ht; cases ht
    have e2 : Ex H (upd (upd H d (.dK [])) t (.tup [])) := (Ex.new hd0).trans (Ex.new ht)
    have back : ∀ {a : Addr}, upd (upd H d (.dK [])) t (.tup []) a = none → H a = none := fun {a} h => by
      cases q : H a with
      | none => rfl
      | some u => rw [e2 _ _ q] at h; cases h
    refine ⟨p, dxp, d, t, .non, 0, rfl, upd_same, .inl ⟨rfl, rfl⟩, ⟨rfl, ?_⟩⟩
    rw [upd_upd]
    have px : p ≠ x := fun z => by rw [z] at hp; rw [e2 _ _ hx] at hp; cases hp
    have dpx : dxp ≠ x := fun z => by rw [z] at hdp; rw [e2 _ _ hx] at hdp; cases hdp
    have hxx : upd (upd (upd (upd H d (.dK [])) t (.tup [])) dxp (.own p)) p (.ins z.Page dxp (pgF d t .non 0)) x = some (.ins z.Book dx []) := by
      rw [upd_ne (Ne.symm px), upd_ne (Ne.symm dpx)]
      exact e2 _ _ hx
    refine ⟨_, rfl, x, _, _, _, rfl, hxx, T.clBook, T.nBookPage, by show 0 < 1000; decide, ?_⟩
    have bb : Ex H (upd (upd (upd (upd H d (.dK [])) t (.tup [])) dxp (.own p)) p (.ins z.Page dxp (pgF d t .non 0))) := (e2.trans (Ex.new hdp)).trans (Ex.new (by rw [upd_ne (Ne.symm hne)]; exact hp))
    refine k _ p ((But.ex bb).trans But.up) upd_same fun G hG => ?_
    have nt : t ≠ d := fun z => by rw [z, upd_same] at ht; cases ht
    have vis : ∀ {a : Addr} {u : HO}, H a = none → a ≠ x → upd (upd (upd (upd H d (.dK [])) t (.tup [])) dxp (.own p)) p (.ins z.Page dxp (pgF d t .non 0)) a = some u →
        hd G (upd (upd (upd (upd (upd H d (.dK [])) t (.tup [])) dxp (.own p)) p (.ins z.Page dxp (pgF d t .non 0))) x (.ins z.Book dx (bkF p))) a = some u := fun {a u} h1 h2 h3 => by
      rw [hd_out (new_out hG h1), upd_ne h2]
      exact h3
    have ndx : d ≠ x := fun z => by rw [z, hx] at hd0; cases hd0
    have ntx : t ≠ x := fun z => by rw [z, hx] at ht0; cases ht0
    have ndd : d ≠ dxp := fun z => by
      rw [← z, upd_ne (Ne.symm nt), upd_same] at hdp
      cases hdp
    have ntd : t ≠ dxp := fun z => by
      rw [← z, upd_same] at hdp
      cases hdp
    have npd : d ≠ p := fun z => by
      rw [← z, upd_ne (Ne.symm nt), upd_same] at hp
      cases hp
    have npt : t ≠ p := fun z => by
      rw [← z, upd_same] at hp
      cases hp
    refine ⟨⟨dxp, d, t, .non, vis (back hp) px upd_same, vis hd0 ndx ?_, st_of (vis ht0 ntx ?_)⟩, fun q hq => by cases hq⟩
    · rw [upd_ne npd, upd_ne ndd, upd_ne (Ne.symm nt)]
      exact upd_same
    · rw [upd_ne npt, upd_ne ntd]
      exact upd_same
/-! a book turns to another page -/
def spTurn (K : PySem.W.Frag) (o : KC.AdrO) (z : AdrZ) : Sp := fun vs H Q _ => ∃ G x d wr m n m', vs = [.ref x, .ref d, .ref wr] ∧ BookAt K o z G H x m n ∧ hd G H d = some (.dK (kvV m')) ∧ SqT K (hd G H) wr [] ∧ (∀ q ∈ m', HsW o.House (hd G H) q.2) ∧
  (m'.map (·.1)).Nodup ∧ m'.length ≤ 60 ∧ n + 1 ≤ 1000 ∧ ∀ H', But x H H' → BookAt K o z G H' x m' (n + 1) → Q .non H'
theorem ok_turn (T : TxtZ K mg c b o z) : FnOk P w K mg base CX0 3 z.BookTurnTo z.fdBookTurnTo ["self", "houses", "wish_row"] (spTurn K o z) := by
  have GPageInit : FnOk P w K mg base CX0 1 z.PageInit z.fdPageInit ["self", "houses", "wish_row", "before"] (spPageI z.Page) := ok_pageI T
  refine T.fBookTurnTo.ok scBookTurnTo (fun vs H Q E h => ?_) (fun cdv A outer s H vs Q E hr h => ?_)
  · obtain ⟨G, x, d, wr, m, n, m', rfl, _⟩ := h
    rfl
  · obtain ⟨G, x, d, wr, m, n, m', rfl, hb, hdd, hwr, hhs, nd, sz, nn, k⟩ := h
    refine ⟨_, (pss_one (ps_fld (pv 0) (pe_make T.mkPage GPageInit (hr.mono (by decide)) (by rfl) T.gPage T.bPageInit .nil pass0 (pa_cons (pv 1) (pa_cons (pv 2) (pa_cons (pe_fld (pv 0) rfl) pa_nil)))) rfl)), ?_⟩
    obtain ⟨dx, p, dxp, d0, wr0, bf, h1, _, h2, _, h3, h4, h5⟩ := hb.open_
    dsimp only [sFld]
    refine ⟨_, rfl, _, rfl, ?_⟩
    refine ⟨_, rfl, x, _, _, _, _, rfl, h1, T.clBook, T.nBookPage, rfl, ?_⟩
    intro p2 dx2 hp2 hdx2 hne
    have n1 : ∀ {a : Addr} {u : HO}, H a = some u → upd (upd H dx2 (.own p2)) p2 (.ins z.Page dx2 []) a = some u := fun {a u} e => by
      rw [upd_ne (show a ≠ p2 by rintro rfl; rw [hp2] at e; cases e), upd_ne (show a ≠ dx2 by rintro rfl; rw [hdx2] at e; cases e)]
      exact e
    refine ⟨p2, dx2, d, wr, .ref p, n + 1, rfl, upd_same, .inr ⟨p, dxp, d0, wr0, bf, n, rfl, n1 h2, rfl⟩, ⟨rfl, ?_⟩⟩
    rw [upd_upd]
    have n2 : Ex H (upd (upd H dx2 (.own p2)) p2 (.ins z.Page dx2 (pgF d wr (.ref p) (n + 1)))) := fun a u e => by
      rw [upd_ne (show a ≠ p2 by rintro rfl; rw [hp2] at e; cases e), upd_ne (show a ≠ dx2 by rintro rfl; rw [hdx2] at e; cases e)]
      exact e
    refine ⟨_, rfl, x, _, _, _, rfl, n2 _ _ h1, T.clBook, T.nBookPage, by show 1 < 1000; decide, ?_⟩
    have bt : But x H (upd (upd (upd H dx2 (.own p2)) p2 (.ins z.Page dx2 (pgF d wr (.ref p) (n + 1)))) x (.ins z.Book dx (bkF p2))) := (But.ex n2).trans But.up
    have eh := bt.hd hb.mem
    have p2x : p2 ≠ x := fun z => by rw [z, h1] at hp2; cases hp2
    have p2G : p2 ∉ G := new_out hb.vis hp2
    refine k _ bt ⟨hb.mem, fun a ha => bt.some (hb.vis a ha) (by rw [upd_same]; rfl), ⟨dx, p2, upd_same, ⟨⟨dx2, d, wr, .ref p, ?_, eh _ _ hdd, ex_t eh hwr⟩, fun q hq => (hhs q hq).ex eh⟩⟩, nd, sz, nn⟩
    rw [hd_out p2G, upd_ne p2x]
    exact upd_same
end
end L2.KB

set_option Elab.async false
set_option maxRecDepth 100000
set_option maxHeartbeats 400000
set_option linter.all false
/-! Books: put, remove. -/
namespace L2.KB
open PySem PySem.Spec PyProof.Rows XK Evl XC
section
variable {P : Program} {w : World} {K : PySem.W.Frag} {mg : Str → Option Value} {base : Heap} {c : KC.AdrC} {b : KC.AdrH} {o : KC.AdrO} {z : AdrZ}
def spPut (K : PySem.W.Frag) (o : KC.AdrO) (z : AdrZ) : Sp := fun vs H Q _ => ∃ G x s h m n, vs = [.ref x, .str s, .ref h] ∧ BookAt K o z G H x m n ∧ nameS s = true ∧ HsW o.House (hd G H) h ∧ m.length + 1 ≤ 60 ∧ n + 1 ≤ 1000 ∧
  ∀ H', But x H H' → BookAt K o z G H' x (putM m s h) (n + 1) → Q .non H'
theorem ok_put (T : TxtZ K mg c b o z) : FnOk P w K mg base CX0 5 z.BookPut z.fdBookPut ["self", "name", "house"] (spPut K o z) := by
  have GIsName : FnOk P w K mg base CX0 1 z.IsName z.fdIsName ["thing"] spName := ok_name T
  have GCheckHouse : FnOk P w K mg base CX0 1 z.CheckHouse z.fdCheckHouse ["house"] (spCH o.House) := ok_checkHouse T
  have GCheckWishes : FnOk P w K mg base CX0 3 z.CheckWishes z.fdCheckWishes ["houses", "wish_row", "touched"] spCW := ok_cw T
  have GBookTurnTo : FnOk P w K mg base CX0 3 z.BookTurnTo z.fdBookTurnTo ["self", "houses", "wish_row"] (spTurn K o z) := ok_turn T
  refine T.fBookPut.ok scBookPut (fun vs H Q E h => ?_) (fun cdv A outer s H vs Q E hr h => ?_)
  · obtain ⟨G, x, s, h, m, n, rfl, _⟩ := h
    rfl
  · obtain ⟨G, x, s', hh, m, n, rfl, hb, hs, hw, hm, hn, k⟩ := h
    refine ⟨_, (pss_cons (ps_if (pt_not (pt_val (pe_call GIsName (hr.mono (by decide)) (by rfl) T.gIsName T.kIsName T.bIsName .nil pass0 (pa_cons (pv 1) pa_nil)))) (pss_one XK.ps_nvr) pss_nil)
      (pss_cons (ps_expr (pe_call GCheckHouse (hr.mono (by decide)) (by rfl) T.gCheckHouse T.kCheckHouse T.bCheckHouse .nil pass0 (pa_cons (pv 2) pa_nil)))
      (pss_cons (ps_set (i := 3) scBookPut.nd rfl (by first | exact Or.inl rfl | exact Or.inr rfl) (by exact (pe_fld (pe_fld (pv 0) rfl) rfl)))
      (pss_cons (ps_setLc (i := 4) (own := [("at", 5), ("wish", 7)]) (g := gTup K 2 (gCons (gName 5) (gCons (gName 7) gNil))) rfl scBookPut.nd rfl rfl (sw_true rfl rfl rfl (by decide +kernel)) (XK.pi_enumT (by rfl) T.benumerate (pa_cons (pv 3) pa_nil)) (blkOk_by (own := [("at", 5), ("wish", 7)]) (N := NBookPut) (sc := defScope sBookPut) (by decide +kernel)) (fun _ _ _ _ _ => pg_tup (by rfl) (pgs_cons (pg_name (i := 5) scBookPut.nd rfl (Or.inl rfl)) (pgs_cons (pg_name (i := 7) scBookPut.nd rfl (Or.inl rfl)) pgs_nil))) (fun _ _ _ _ _ => by exact (pts_one XK.pt_nvr)) (fun _ _ _ _ _ => by exact (pv 5)))
      (pss_cons (ps_for (by first | exact PassesOwn.never | exact PassesOwn.leaving) rfl (pi_list (pv 4)) (pg_name (i := 5) scBookPut.nd rfl (by first | exact Or.inl rfl | exact Or.inr rfl)) (pss_one XK.ps_nvr))
      (pss_cons (ps_set (i := 6) scBookPut.nd rfl (by first | exact Or.inl rfl | exact Or.inr rfl) (by exact (XK.pe_spread (pe_fld (pe_fld (pv 0) rfl) rfl) (pv 1) (pv 2))))
      (pss_cons (ps_expr (pe_call GCheckWishes (hr.mono (by decide)) (by rfl) T.gCheckWishes T.kCheckWishes T.bCheckWishes .nil pass0 (pa_cons (pv 6) (pa_cons (pv 3) (pa_cons (pv 4) pa_nil)))))
      (pss_one (ps_expr (pe_meth (pv 0) T.clBook T.meBookTurnTo GBookTurnTo (hr.mono (by decide)) T.bBookTurnTo .nil pass0 (pa_cons (pv 6) (pa_cons (pv 3) pa_nil)))))))))))), ?_⟩
    refine s_when (b := false) (et_not (a := true) (et_test fun H1 e Q' q' => ⟨_, rfl, s', rfl, hs, fun H2 e2 => q' H2 e2⟩)) (fun z => by cases z) fun _ H1 e1 => ?_
    dsimp only [tSeq, tDrop]
    refine ⟨_, rfl, hh, rfl, (hw.ex hdEx).ex e1, fun H2 e2 => ?_⟩
    have b2 := hb.ex (e1.trans e2)
    have w2 := hw.ex (hd_ex (G := G) (e1.trans e2))
    obtain ⟨dx, p, dxp, d, wr, bf, h1, _, h2, g3, h3, h4, h5⟩ := b2.open_
    dsimp only [tAsg, gName]
    refine ⟨_, rfl, x, _, _, _, _, rfl, h1, T.clBook, T.nBookPage, rfl, p, _, _, _, _, rfl, h2, T.clPage, T.nPageWishRow, rfl, ?_⟩
    dsimp only [tSeq, tAsg, gName]
    refine lc_nilE (ev_var (by rfl)) (ex_t hdEx h4) fun D H3 e3 hD => ?_
    refine for_nilL (ev_var (by rfl)) hD fun H4 e4 => ?_
    have e34 := e3.trans e4
    dsimp only
    intro p1 hp1
    have n1 := Ex.new (o := .dK []) hp1
    refine ⟨_, rfl, x, _, _, _, _, rfl, (e34.trans n1) _ _ h1, T.clBook, T.nBookPage, rfl, p, _, _, _, _, rfl, (e34.trans n1) _ _ h2, T.clPage, T.nPageHouses, rfl, ?_⟩
    have dp1 : d ≠ p1 := fun z => by rw [← z, e34 _ _ h3] at hp1; cases hp1
    refine ⟨d, kvV m, rfl, dp1, (e34.trans n1) _ _ h3, upd_same, ?_, fun p2 hp2 hne => ?_⟩
    · have e : (kvV m).length = m.length := List.length_map _
      omega
    rw [upd_upd]
    rw [upd_ne hne] at hp2
    have n2 : Ex H4 (upd (upd H4 p1 (.dK (kvV m))) p2 (.dK [])) := (Ex.new hp1).trans (Ex.new (by rw [upd_ne hne]; exact hp2))
    refine ⟨_, rfl, _, rfl, Sum.inr s', rfl, by rw [upd_ne (Ne.symm hne)]; exact upd_same, upd_same, ?_⟩
    rw [putK_kv]
    -- the new dict of houses
    have n3 : Ex H4 (upd (upd (upd (upd H4 p1 (.dK (kvV m))) p2 (.dK [])) p2 (.dK [(Sum.inr s', .ref hh)])) p1 (.dK (kvV (putM m s' hh)))) := fun a u e => by
      rw [upd_ne (show a ≠ p1 by rintro rfl; rw [hp1] at e; cases e), upd_ne (show a ≠ p2 by rintro rfl; rw [hp2] at e; cases e)]
      exact n2 a u e
    have e5 := e34.trans n3
    refine ⟨_, rfl, _, rfl, _, rfl, p1, wr, D, rfl, (e4.trans n3) _ _ hD, fun H6 e6 => ?_⟩
    have e7 := e5.trans e6
    have b7 := b2.ex e7
    have p1G : p1 ∉ G := new_out (b2.ex e34).vis hp1
    refine ⟨_, rfl, x, dx, _, rfl, e7 _ _ h1, rfl, ?_⟩
    refine ⟨_, rfl, _, rfl, G, x, p1, wr, m, n, putM m s' hh, rfl, b7, ?_, ex_t (hd_ex e7) h4, fun q hq => ?_, putM_nd b7.nd, ?_, hn, fun H8 bt b8 => ?_⟩
    · rw [hd_out p1G]
      exact e6 _ _ upd_same
    · rcases putM_mem hq with hq | hq
      · exact (h5 q hq).ex (hd_ex e7)
      · rw [hq]
        exact w2.ex (hd_ex e7)
    · have := putM_len m s' hh
      omega
    · exact k H8 ((But.ex ((e1.trans e2).trans e7)).trans bt) b8
theorem ok_setitem (T : TxtZ K mg c b o z) : FnOk P w K mg base CX0 6 z.BookSetitem z.fdBookSetitem ["self", "at", "worth"] (spPut K o z) := by
  have GBookPut : FnOk P w K mg base CX0 5 z.BookPut z.fdBookPut ["self", "name", "house"] (spPut K o z) := ok_put T
  refine T.fBookSetitem.ok scBookSetitem (fun vs H Q E h => ?_) (fun cdv A outer s H vs Q E hr h => ?_)
  · obtain ⟨G, x, s, h, m, n, rfl, _⟩ := h
    rfl
  · obtain ⟨G, x, s', hh, m, n, rfl, hb, hs, hw, hm, hn, k⟩ := h
    refine ⟨_, (pss_one (ps_expr (pe_meth (pv 0) T.clBook T.meBookPut GBookPut (hr.mono (by decide)) T.bBookPut .nil pass0 (pa_cons (pv 1) (pa_cons (pv 2) pa_nil))))), ?_⟩
    obtain ⟨dx, p, h1, _⟩ := hb.ob
    exact ⟨_, rfl, x, dx, _, rfl, h1, rfl, _, rfl, _, rfl, G, x, s', hh, m, n, rfl, hb, hs, hw, hm, hn, k⟩
/-! a name is taken away -/
def spRemove (K : PySem.W.Frag) (o : KC.AdrO) (z : AdrZ) : Sp := fun vs H Q E => ∃ G x y d m n, vs = [.ref x, y] ∧ BookAt K o z G H x m n ∧ Da K H y d ∧ n + 1 ≤ 1000 ∧ (∀ s, d = .str s → inM d m = true → ∀ H', But x H H' → BookAt K o z G H' x (dropM m s) (n + 1) → Q .non H') ∧
  (inM d m = false → ∀ dd H', H dd = none → Ex H H' → H' dd = some (.xd [(("given" : Str), y)]) → E (.ref z.UnknownName) (some dd) H')
theorem filt_take {m : Ms} {s : Str} {i : Nat} {q : Str × Addr} (h : m[i]? = some q) : dropM (m.take (i + 1)) s = if q.1 = s then dropM (m.take i) s else dropM (m.take i) s ++ [q] := by
  unfold dropM
  rw [List.take_succ, h, List.filter_append]
  by_cases e : q.1 = s
  · simp [e]
  · simp [e]
theorem putM_new {m : Ms} {s : Str} {a : Addr} (h : s ∉ m.map (·.1)) : putM m s a = m ++ [(s, a)] := by
  unfold putM
  rw [if_neg]
  intro t
  obtain ⟨p, hp, e⟩ := List.any_eq_true.mp t
  exact h (List.mem_map.mpr ⟨p, hp, of_decide_eq_true e⟩)
/-- the names ahead of one are others -/
theorem take_new {m : Ms} (nd : (m.map (·.1)).Nodup) {s : Str} {i : Nat} {q : Str × Addr} (h : m[i]? = some q) : q.1 ∉ (dropM (m.take i) s).map (·.1) := fun t => by
  obtain ⟨p, hp, e⟩ := List.mem_map.mp t
  obtain ⟨j, hj, hpj⟩ := List.mem_iff_getElem.mp (dropM_mem hp)
  rw [List.length_take] at hj
  have hi := (List.getElem?_eq_some_iff.mp h).1
  have hj' : j < m.length := by omega
  rw [List.getElem_take] at hpj
  have li : i < (m.map (·.1)).length := by rw [List.length_map]; exact hi
  have lj : j < (m.map (·.1)).length := by rw [List.length_map]; exact hj'
  refine List.pairwise_iff_getElem.mp nd j i lj li (by omega) ?_
  rw [List.getElem_map, List.getElem_map, hpj, e, (List.getElem?_eq_some_iff.mp h).2]
theorem look_at {m : Ms} (nd : (m.map (·.1)).Nodup) {i : Nat} {q : Str × Addr} (h : m[i]? = some q) : m.lookup q.1 = some q.2 := by
  induction m generalizing i with
  | nil => cases h
  | cons p m ih =>
    rw [List.map_cons, List.nodup_cons] at nd
    cases i with
    | zero =>
      obtain rfl : p = q := Option.some.inj h
      rw [List.lookup_cons, beq_self_eq_true]
    | succ i =>
      have h' : m[i]? = some q := by simpa using h
      have ne : q.1 ≠ p.1 := fun z => nd.1 (List.mem_map.mpr ⟨q, List.mem_of_getElem? h', z⟩)
      rw [List.lookup_cons, beq_eq_false_iff_ne.mpr ne]
      exact ih nd.2 h'
theorem kv_at {m : Ms} {i : Nat} {q : Str × Addr} (h : m[i]? = some q) : (kvV m)[i]? = some (Sum.inr q.1, .ref q.2) := by
  unfold kvV
  rw [List.getElem?_map, h]
  rfl
theorem ok_remove (T : TxtZ K mg c b o z) : FnOk P w K mg base (L2N.CX P w) 5 z.BookRemove z.fdBookRemove ["self", "name"] (spRemove K o z) := by
  have GBookCheckKnown : FnOk P w K mg base (L2N.CX P w) 3 z.BookCheckKnown z.fdBookCheckKnown ["self", "name"] (spKnown K o z) := ok_known T
  have GBookTurnTo : FnOk P w K mg base CX0 3 z.BookTurnTo z.fdBookTurnTo ["self", "houses", "wish_row"] (spTurn K o z) := ok_turn T
  refine Fun.okN T.fBookRemove scBookRemove (fun vs H Q E h => ?_) (fun cdv A outer s H vs Q E hr h => ?_)
  · obtain ⟨G, x, y, d, m, n, rfl, _⟩ := h
    rfl
  · obtain ⟨G, x, y, dt, m, n, rfl, hb, hy, hn, kT, kE⟩ := h
    refine ⟨_, (pss_cons (ps_expr (pe_meth (pv 0) T.clBook T.meBookCheckKnown GBookCheckKnown (hr.mono (by decide)) T.bBookCheckKnown .nil (L2N.passes_call (L2N.takes_of rfl rfl rfl rfl) fun _ _ _ _ h => h) (pa_cons (pv 1) pa_nil)))
      (pss_cons (ps_for (by first | exact PassesOwn.never | exact PassesOwn.leaving) rfl (XK.pi_enumT (by rfl) T.benumerate (pa_cons (pe_fld (pe_fld (pv 0) rfl) rfl) pa_nil)) (pg_tup (by rfl) (pgs_cons (pg_name (i := 3) scBookRemove.nd rfl (by first | exact Or.inl rfl | exact Or.inr rfl)) (pgs_cons (pg_name (i := 4) scBookRemove.nd rfl (by first | exact Or.inl rfl | exact Or.inr rfl)) pgs_nil))) (pss_one XK.ps_nvr))
      (pss_cons (ps_lock (XK.ps_setDc (i := 2) (own := [("other", 5)]) (g := gName 5) rfl scBookRemove.nd rfl rfl (XK.sw_trueD rfl rfl rfl (by decide +kernel)) (pi_keys (pe_fld (pe_fld (pv 0) rfl) rfl)) (blkOk_by (own := [("other", 5)]) (N := NBookRemove) (sc := defScope sBookRemove) (by decide +kernel)) (fun _ _ _ _ _ => pg_name (i := 5) scBookRemove.nd rfl (Or.inl rfl)) (fun _ _ _ _ _ => by exact (pts_one (pt_cmpR op_ne (pv 5) (pv 1) (nomark _)))) (fun _ _ _ _ _ => by exact (pv 5)) (fun _ _ _ _ _ => by exact (pe_dget (units1 hr) (XK.pe_fldKk (K := K) rfl (XK.pe_fldKk (K := K) rfl (pv 0) rfl) rfl) (pv 5) (fun _ _ => rfl)))))
      (pss_one (ps_expr (pe_meth (pv 0) T.clBook T.meBookTurnTo GBookTurnTo (hr.mono (by decide)) T.bBookTurnTo .nil pass0 (pa_cons (pv 2) (pa_cons (pe_fld (pe_fld (pv 0) rfl) rfl) pa_nil)))))))), ?_⟩
    dsimp only [tSeq, tDrop]
    obtain ⟨dx0, p0, h10, _⟩ := hb.ob
    refine ⟨_, rfl, x, dx0, _, rfl, h10, rfl, _, rfl, G, x, y, dt, m, n, rfl, hb, hy, fun hm H1 e1 => ?_, kE⟩
    obtain ⟨s', rfl⟩ : ∃ s', dt = .str s' := by
      cases dt <;> first | (cases hm; done) | exact ⟨_, rfl⟩
    obtain rfl : y = .str s' := by cases hy; rfl
    have b1 := hb.ex e1
    obtain ⟨dx, p, dxp, d, wr, bf, h1, _, h2, g3, h3, h4, h5⟩ := b1.open_
    refine for_nilE (ev_fd (ev_fd (ev_var (by rfl)) h1 T.clBook T.nBookPage rfl) h2 T.clPage T.nPageWishRow (by rfl)) (ex_t hdEx h4) fun H2 e2 => ?_
    have h1' := e2 _ _ h1
    have h2' := e2 _ _ h2
    have h3' := e2 _ _ h3
    -- the houses are walked: locked meanwhile
    refine ⟨d, .dK (kvV m), h3', trivial, fun od => ?_⟩
    dsimp only [tAsg, gName]
    have xd : x ≠ d := fun z => by rw [z, h3'] at h1'; cases h1'
    have pd : p ≠ d := fun z => by rw [z, h3'] at h2'; cases h2'
    have L : ∀ {a : Addr} {u : HO}, a ≠ d → H2 a = some u → upd H2 d (.frz od (.dK (kvV m))) a = some u := fun {a u} na e => by rw [upd_ne na]; exact e
    have kl : (kvV m).length = m.length := List.length_map _
    have z60 := b1.sz
    refine dc_run (J := Itk d od (kvV m)) m.length (fun H3 => Ex (upd H2 d (.frz od (.dK (kvV m)))) H3) (fun D i H3 => Ex (upd H2 d (.frz od (.dK (kvV m)))) H3 ∧ upd H2 d (.frz od (.dK (kvV m))) D = none ∧ H3 D = some (.dK (kvV (dropM (m.take i) s'))))
      (fun R r => ?_) (fun D H3 e3 hD => ⟨e3.trans (Ex.new hD), fresh_back e3 hD, upd_same⟩) (fun D H3 p3 => ⟨p3.1 _ _ upd_same, by rw [kl]; exact Nat.le_refl _⟩) (fun D i H3 hi p3 => ⟨⟨p3.1 _ _ upd_same, by rw [kl]; exact hi⟩, fun yv H4 hyv Nx hN => ?_⟩) (fun D H3 p3 => ?_)
    · exact ⟨_, rfl, x, _, _, _, _, rfl, L xd h1', T.clBook, T.nBookPage, rfl, p, _, _, _, _, rfl, L pd h2', T.clPage, T.nPageHouses, rfl, d, od, rfl, .inl ⟨kvV m, upd_same, r _ (Ex.refl _)⟩⟩
    · obtain ⟨rfl, kk, vv, hkk, rfl⟩ := hyv
      obtain ⟨e3, hD0, hD⟩ := p3
      obtain ⟨q, hq⟩ : ∃ q, m[i]? = some q := ⟨_, List.getElem?_eq_getElem hi⟩
      rw [kv_at hq] at hkk
      obtain ⟨rfl, rfl⟩ : Sum.inr q.1 = kk ∧ V.ref q.2 = vv := by
        have := Option.some.inj hkk
        exact ⟨congrArg Prod.fst this, congrArg Prod.snd this⟩
      have ft := filt_take (s := s') hq
      refine ⟨rfl, ?_⟩
      refine ⟨_, rfl, _, rfl, ?_⟩
      refine ⟨rfl, _, rfl, if_b (fun hne => ?_) (fun heq => ?_)⟩
      · have ne : q.1 ≠ s' := fun z => by
          rw [z] at hne
          have e : decide (kV (Sum.inr s') = V.str s') = true := decide_eq_true rfl
          rw [e] at hne
          cases hne
        rw [if_neg ne] at ft
        have xL := e3 _ _ (L xd h1')
        have pL := e3 _ _ (L pd h2')
        have dL := e3 _ _ (upd_same : upd H2 d (.frz od (.dK (kvV m))) d = _)
        refine ⟨_, rfl, ⟨_, rfl, x, _, _, _, _, rfl, xL, T.clBook, T.nBookPage, rfl, p, _, _, _, _, rfl, pL, T.clPage, T.nPageHouses, rfl, _, rfl, d, .ref q.2, rfl, ?_, ?_⟩⟩
        · have lv : valV (kvV m) (Sum.inr q.1) = some (.ref q.2) := by rw [valV_kv, look_at b1.nd hq]; rfl
          rw [← lv]
          exact .inl ⟨kvV m, Sum.inr q.1, .inr ⟨od, dL⟩, rfl, rfl⟩
        · refine ⟨_, Sum.inr q.1, rfl, hD, ?_, hN _ ⟨?_, hD0, ?_⟩⟩
          · have l1 : (kvV (dropM (m.take i) s')).length = (dropM (m.take i) s').length := List.length_map _
            have l2 := dropM_len (m.take i) s'
            rw [List.length_take] at l2
            rw [l1, sizeLine_eq]
            omega
          · intro a u e
            rw [upd_ne (show a ≠ D by rintro rfl; rw [hD0] at e; cases e)]
            exact e3 _ _ e
          · rw [upd_same, putK_kv, putM_new (take_new b1.nd hq), ft]
      · have eq : q.1 = s' := by
          by_cases z : q.1 = s'
          · exact z
          · exfalso
            revert heq
            simp [kV, z]
        rw [if_pos eq] at ft
        exact hN _ ⟨e3, hD0, by rw [ft]; exact hD⟩
    · obtain ⟨e3, hD0, hD⟩ := p3
      rw [List.take_length] at hD
      have dL := e3 _ _ (upd_same : upd H2 d (.frz od (.dK (kvV m))) d = _)
      have nD : D ≠ d := fun z => by rw [z, upd_same] at hD0; cases hD0
      have e4 : Ex H2 (upd H3 d (.dK (kvV m))) := fun a u e => by
        by_cases q : a = d
        · rw [q] at e ⊢
          rw [upd_same, ← e, h3']
        · rw [upd_ne q]
          exact e3 _ _ (L q e)
      refine ⟨dL, ?_⟩
      have b4 := (b1.ex e2).ex e4
      have x4 := e4 _ _ h1'
      have p4 := e4 _ _ h2'
      have DG : D ∉ G := new_out (b1.ex e2).vis (by rw [upd_ne nD] at hD0; exact hD0)
      refine ⟨_, rfl, x, dx, _, rfl, x4, rfl, _, rfl, _, rfl, x, _, _, _, _, rfl, x4, T.clBook, T.nBookPage, rfl, p, _, _, _, _, rfl, p4, T.clPage, T.nPageWishRow, rfl, ?_⟩
      refine ⟨G, x, D, wr, m, n, dropM m s', rfl, b4, ?_, ex_t (hd_ex (e2.trans e4)) h4, fun q hq => (h5 q (dropM_mem hq)).ex (hd_ex (e2.trans e4)), dropM_nd b4.nd, ?_, hn, fun H8 bt b8 => ?_⟩
      · rw [hd_out DG, upd_ne nD]
        exact hD
      · have := dropM_len m s'
        omega
      · exact kT s' rfl hm H8 ((But.ex ((e1.trans e2).trans e4)).trans bt) b8
end
end L2.KB

set_option Elab.async false
set_option maxRecDepth 100000
set_option maxHeartbeats 400000
set_option linter.all false
/-! The law's purse: what is drawn from it. -/
namespace L2.KB
open PySem PySem.Spec PyProof.Rows XK Evl XC
/-- all but two stay -/
def But2 (p q : Addr) (H H' : Hp) : Prop := ∀ a u, a ≠ p → a ≠ q → H a = some u → H' a = some u
theorem But2.ex {p q : Addr} {H H' : Hp} (e : Ex H H') : But2 p q H H' := fun a u _ _ h => e a u h
theorem But2.trans {p q : Addr} {H H1 H2 : Hp} (x : But2 p q H H1) (y : But2 p q H1 H2) : But2 p q H H2 := fun a u n1 n2 h => y a u n1 n2 (x a u n1 n2 h)
theorem But2.up1 {p q : Addr} {H : Hp} {o : HO} : But2 p q H (upd H p o) := fun a u n1 n2 h => by rw [upd_ne n1]; exact h
theorem But2.up2 {p q : Addr} {H : Hp} {o : HO} : But2 p q H (upd H q o) := fun a u n1 n2 h => by rw [upd_ne n2]; exact h
/-- the purse: digits at q, what is mixed, how many were drawn -/
def PurseAt (p q : Addr) (n : Int) (H : Hp) : Prop := ∃ (x : Int) (zs : List Int), H p = some (.lst [.ref q, .int x, .int n]) ∧ H q = some (.lst (zs.map V.int)) ∧ p ≠ q ∧ zs.length ≤ 63 ∧ 0 ≤ x ∧ x < 2147483549 ∧ 0 ≤ n
theorem PurseAt.ex {p q : Addr} {n : Int} {H H' : Hp} (h : PurseAt p q n H) (e : Ex H H') : PurseAt p q n H' := by
  obtain ⟨x, zs, h1, h2, h3⟩ := h
  exact ⟨x, zs, e _ _ h1, e _ _ h2, h3⟩
def spDraw : Sp := fun vs H Q _ => ∃ (p q : Addr) (n m : Int), vs = [.ref p, .int m] ∧ PurseAt p q n H ∧ n + 1 ≤ 1000000 ∧ 1 ≤ m ∧ m < 1000000 ∧ ∀ k H', 0 ≤ k → k < m → PurseAt p q (n + 1) H' → But2 p q H H' → Q (.int k) H'
section
variable {P : Program} {w : World} {K : PySem.W.Frag} {mg : Str → Option Value} {base : Heap} {c : KC.AdrC} {b : KC.AdrH} {o : KC.AdrO} {z : AdrZ}
theorem rc_int {H : Hp} (i : Int) : RC (fun xs H Q => (∃ i, xs = [V.int i] ∧ Q (V.int i) H) ∨ ∃ k, xs = [V.bl k] ∧ Q (V.int (if k = true then 1 else 0)) H) [.int i] H (.int i) := fun H4 e4 R q => .inl ⟨_, rfl, q _ (Ex.refl _)⟩
theorem ix_nat {n i : Nat} (h : i < n) : ixN n (i : Int) = some i := by
  unfold ixN
  rw [if_pos (Int.natCast_nonneg i), if_pos (by omega)]
  rfl
theorem at_nat {α : Type} {xs : List α} {i : Nat} {v : α} (h : xs[i]? = some v) : atI xs (i : Int) = some v := by
  unfold atI
  rw [ix_nat (List.getElem?_eq_some_iff.mp h).1]
  exact h
theorem ixz {zs : List Int} {i : Int} {j : Nat} (hi : i = (j : Int)) (hj : j < zs.length) (hz : zs.length ≤ 63) : atI (zs.map V.int) i = some (.int zs[j]) := by
  subst hi
  exact at_nat (by rw [List.getElem?_map, List.getElem?_eq_getElem hj]; rfl)
theorem ok_draw (T : TxtZ K mg c b o z) : FnOk P w K mg base CX0 1 z.LawDraw z.fdLawDraw ["_law_purse_here", "_law_many"] spDraw := by
  refine T.fLawDraw.ok scLawDraw (fun vs H Q E h => ?_) (fun cdv A outer s H vs Q E hr h => ?_)
  · obtain ⟨p, q, n, m, rfl, _⟩ := h
    rfl
  · obtain ⟨p, q, n, m, rfl, ⟨x, zs, hp, hq, pq, zl, x0, x1, n0⟩, hn, hm1, hm2, k⟩ := h
    refine ⟨_, (pss_cons (ps_asg (pe_op op_add (pe_ix (r := rIxL K) ix_list (pv 0) pe_int (fun _ _ => rfl)) pe_int) (pg_sub (pv 0) pe_int set_list))
      (pss_cons (ps_for PassesOwn.never rfl (pi_range1 (by rfl) T.brange (pa_cons (pe_callB call_len (by rfl) T.blen (by decide +kernel) (pa_cons (pe_ix (r := rIxL K) ix_list (pv 0) pe_int (fun _ _ => rfl)) pa_nil)) pa_nil)) (pg_name (i := 2) scLawDraw.nd rfl (by first | exact Or.inl rfl | exact Or.inr rfl)) (pss_cons (ps_set (i := 3) scLawDraw.nd rfl (by first | exact Or.inl rfl | exact Or.inr rfl) (by exact (pe_op op_mod (pe_callTy call_int1 (by rfl) T.bint (by decide +kernel) (pa_cons (pe_op op_add (pe_ix (r := rIxL K) ix_list (pv 0) pe_int (fun _ _ => rfl)) (pv 2)) pa_nil)) (pe_callB call_len (by rfl) T.blen (by decide +kernel) (pa_cons (pe_ix (r := rIxL K) ix_list (pv 0) pe_int (fun _ _ => rfl)) pa_nil)))))
      (pss_one (ps_if (pt_cmpR op_gt (pe_ix (r := rIxL K) ix_list (pe_ix (r := rIxL K) ix_list (pv 0) pe_int (fun _ _ => rfl)) (pv 3) (fun _ _ => rfl)) pe_int (nomark _)) (pss_cons (ps_set (i := 4) scLawDraw.nd rfl (by first | exact Or.inl rfl | exact Or.inr rfl) (by exact (pe_op op_mod (pe_callTy call_int1 (by rfl) T.bint (by decide +kernel) (pa_cons (pe_ix (r := rIxL K) ix_list (pe_ix (r := rIxL K) ix_list (pv 0) pe_int (fun _ _ => rfl)) (pv 3) (fun _ _ => rfl)) pa_nil)) (pv 1))))
      (pss_cons (ps_asg (pe_op op_fdiv (pe_callTy call_int1 (by rfl) T.bint (by decide +kernel) (pa_cons (pe_ix (r := rIxL K) ix_list (pe_ix (r := rIxL K) ix_list (pv 0) pe_int (fun _ _ => rfl)) (pv 3) (fun _ _ => rfl)) pa_nil)) (pv 1)) (pg_sub (pe_ix (r := rIxL K) ix_list (pv 0) pe_int (fun _ _ => rfl)) (pv 3) set_list))
      (pss_one (ps_ret (by exact (pv 4)))))) pss_nil))))
      (pss_cons (ps_asg (pe_op op_mod (pe_callTy call_int1 (by rfl) T.bint (by decide +kernel) (pa_cons (pe_op op_add (pe_op op_add (pe_op op_mul (pe_ix (r := rIxL K) ix_list (pv 0) pe_int (fun _ _ => rfl)) pe_int) (pe_op op_mul pe_int (pe_ix (r := rIxL K) ix_list (pv 0) pe_int (fun _ _ => rfl)))) pe_int) pa_nil)) pe_int) (pg_sub (pv 0) pe_int set_list))
      (pss_one (ps_ret (by exact (pe_op op_mod (pe_callTy call_int1 (by rfl) T.bint (by decide +kernel) (pa_cons (pe_op op_fdiv (pe_ix (r := rIxL K) ix_list (pv 0) pe_int (fun _ _ => rfl)) pe_int) pa_nil)) (pv 1)))))))), ?_⟩
    refine s_setL (j := 2) (v := .int (n + 1)) hp (ev_op (ev_op (ev_var rfl) ev_c (rv_ixL (sq_of hp) rfl)) ev_c rv_I0) (ev_var rfl) ev_c (by show 2 < 3; decide) fun H1 e1 => ?_
    have hp1 : upd H1 p (.lst [.ref q, .int x, .int (n + 1)]) p = some (.lst [.ref q, .int x, .int (n + 1)]) := upd_same
    have hq1 : upd H1 p (.lst [.ref q, .int x, .int (n + 1)]) q = some (.lst (zs.map V.int)) := by
      rw [upd_ne (Ne.symm pq)]
      exact e1 _ _ hq
    have b1 : But2 p q H (upd H1 p (.lst [.ref q, .int x, .int (n + 1)])) := (But2.ex e1).trans But2.up1
    generalize hH2 : upd H1 p (.lst [.ref q, .int x, .int (n + 1)]) = H2 at hp1 hq1 b1
    have h2 : upd H1 p (.lst (List.set [.ref q, .int x, .int n] 2 (.int (n + 1)))) = H2 := hH2
    dsimp only [tSeq]
    rw [h2]
    have gp : ∀ {σ : L2.St} {H' : Hp}, Ex H2 H' → σ[0]? = some (some (.ref p)) → Ev (tOp (rIxL K) (tVar 0) (tC (.int 0))) σ H' (.ref q) := fun e hσ => ev_op (ev_var hσ) ev_c (rv_ixL (sq_of (e _ _ hp1)) rfl)
    have gz : ∀ {σ : L2.St} {H' : Hp}, Ex H2 H' → σ[0]? = some (some (.ref p)) → Ev (tCB (fun xs H Q => ∃ x n, xs = [x] ∧ LenV K x H n ∧ Q (.int n) H) (tCons (tOp (rIxL K) (tVar 0) (tC (.int 0))) tNil)) σ H' (.int (zs.length : Int)) := fun {σ H'} e hσ H3 e3 Q3 q3 =>
      gp e hσ H3 e3 _ fun H4 e4 => ⟨_, _, rfl, .inl ⟨_, sq_of (((e.trans e3).trans e4) _ _ hq1), rfl⟩, by
        have : ((zs.map V.int).length : Int) = (zs.length : Int) := by rw [List.length_map]
        rw [this]
        exact q3 H4 e4⟩
    refine s_forR1 (n := (zs.length : Int)) (ea_cons (gz (Ex.refl _) rfl) ea_nil) ⟨by omega, by omega⟩ (fun i σ H' => Ex H2 H' ∧ ∃ a2 a3 a4, σ = [some (.ref p), some (.int m), a2, a3, a4]) (fun H3 e3 => ⟨e3, _, _, _, rfl⟩) (fun i σ H3 hi ⟨e3, a2, a3, a4, hσ⟩ => ?_) (fun σ H3 ⟨e3, a2, a3, a4, hσ⟩ => ?_)
    · subst hσ
      have hlt : i < zs.length := by omega
      have lpos : (0 : Int) < (zs.length : Int) := by omega
      obtain ⟨j, hj⟩ : ∃ j : Nat, ((n + 1) + (i : Int)) % (zs.length : Int) = (j : Int) := ⟨(((n + 1) + (i : Int)) % (zs.length : Int)).toNat, (Int.toNat_of_nonneg (Int.emod_nonneg _ (by omega))).symm⟩
      have jlt : j < zs.length := by
        have := Int.emod_lt_of_pos ((n + 1) + (i : Int)) lpos
        omega
      dsimp only [tSeq, List.set]
      refine s_asg (v := .int (j : Int)) ?_ fun H4 e4 => ?_
      · rw [← hj]
        exact ev_op (ev_cb (ea_cons (ev_op (ev_op (ev_var rfl) ev_c (rv_ixL (sq_of (e3 _ _ hp1)) rfl)) (ev_var rfl) rv_I0) ea_nil) (rc_int _)) (gz e3 rfl) (rv_I lpos)
      have e34 := e3.trans e4
      have gj : ∀ {σ : L2.St} {H' : Hp}, Ex H2 H' → σ[0]? = some (some (.ref p)) → σ[3]? = some (some (.int (j : Int))) → Ev (tOp (rIxL K) (tOp (rIxL K) (tVar 0) (tC (.int 0))) (tVar 3)) σ H' (.int zs[j]) := fun e h0 h3 =>
        ev_op (gp e h0) (ev_var h3) (rv_ixL (sq_of (e _ _ hq1)) (ixz rfl jlt zl))
      dsimp only [List.set]
      refine s_if (b := decide (0 < zs[j])) (et_test (ev_op (gj e34 rfl rfl) ev_c rv_I0)) (fun hpos H5 e5 => ?_) (fun hpos H5 e5 => ?_)
      · have e35 := e34.trans e5
        refine s_asg (v := .int (zs[j] % m)) (ev_op (ev_cb (ea_cons (gj e35 rfl rfl) ea_nil) (rc_int _)) (ev_var rfl) (rv_I (by omega))) fun H6 e6 => ?_
        have e36 := e35.trans e6
        dsimp only [List.set]
        refine s_setL (j := j) (v := .int (zs[j] / m)) (e36 _ _ hq1) (ev_op (ev_cb (ea_cons (gj e36 rfl rfl) ea_nil) (rc_int _)) (ev_var rfl) (rv_I ⟨by omega, by omega⟩)) (gp e36 rfl) (ev_var rfl) (by rw [List.length_map]; exact jlt) fun H7 e7 => ?_
        have e37 := e36.trans e7
        refine ⟨_, rfl, ?_⟩
        refine k _ _ (Int.emod_nonneg _ (by omega)) (Int.emod_lt_of_pos _ (by omega)) ⟨x, zs.set j (zs[j] / m), ?_, ?_, pq, by rw [List.length_set]; exact zl, x0, x1, by omega⟩ ((b1.trans (But2.ex e37)).trans But2.up2)
        · rw [upd_ne pq]
          exact e37 _ _ hp1
        · rw [upd_same, List.map_set]
      · exact ⟨e34.trans e5, _, _, _, rfl⟩
    · subst hσ
      dsimp only [tSeq]
      have mp : ∀ {i : Int} {j : Nat} {v : V} {H' : Hp}, Ex H2 H' → atI [.ref q, .int x, .int (n + 1)] i = some v → Ev (tOp (rIxL K) (tVar 0) (tC (.int i))) [some (.ref p), some (.int m), a2, a3, a4] H' v := fun e h => ev_op (ev_var rfl) ev_c (rv_ixL (sq_of (e _ _ hp1)) h)
      refine s_setL (j := 1) (v := .int ((x * 69069 + 10007 * (n + 1) + 13) % 2147483549)) (e3 _ _ hp1) ?_ (ev_var rfl) ev_c (by show 1 < 3; decide) fun H4 e4 => ?_
      · refine ev_op (ev_cb (ea_cons ?_ ea_nil) (rc_int _)) ev_c (rv_I (show (0 : Int) < 2147483549 by decide))
        refine ev_op (ev_op ?_ ?_ rv_I0) ev_c rv_I0
        · exact ev_op (ev_op (ev_var rfl) ev_c (rv_ixL (sq_of (e3 _ _ hp1)) rfl)) ev_c (rv_I (.inr ⟨by decide, by decide⟩))
        · exact ev_op ev_c (ev_op (ev_var rfl) ev_c (rv_ixL (sq_of (e3 _ _ hp1)) rfl)) (rv_I (.inl ⟨by decide, by decide⟩))
      obtain ⟨y, hy⟩ : ∃ y, y = (x * 69069 + 10007 * (n + 1) + 13) % 2147483549 := ⟨_, rfl⟩
      have y0 : 0 ≤ y := by rw [hy]; exact Int.emod_nonneg _ (by decide)
      have y1 : y < 2147483549 := by rw [hy]; exact Int.emod_lt_of_pos _ (by decide)
      rw [← hy]
      dsimp only [List.set]
      have hp4 : upd H4 p (.lst [.ref q, .int y, .int (n + 1)]) p = some (.lst [.ref q, .int y, .int (n + 1)]) := upd_same
      refine s_ret (v := .int ((y / 7) % m)) (ev_op (ev_cb (ea_cons (ev_op (ev_op (ev_var rfl) ev_c (rv_ixL (sq_of hp4) rfl)) ev_c (rv_I ⟨by decide, by decide⟩)) ea_nil) (rc_int _)) (ev_var rfl) (rv_I (by omega))) fun H5 e5 => ?_
      refine k _ _ (Int.emod_nonneg _ (by omega)) (Int.emod_lt_of_pos _ (by omega)) ⟨y, zs, e5 _ _ hp4, e5 _ _ ?_, pq, zl, y0, y1, by omega⟩ (((b1.trans (But2.ex (e3.trans e4))).trans But2.up1).trans (But2.ex e5))
      rw [upd_ne (Ne.symm pq)]
      exact (e3.trans e4) _ _ hq1
def spPick : Sp := fun vs H Q _ => ∃ (p q l : Addr) (n : Int) (xs : List V), vs = [.ref p, .ref l] ∧ PurseAt p q n H ∧ n + 1 ≤ 1000000 ∧ H l = some (.lst xs) ∧ l ≠ p ∧ l ≠ q ∧ xs ≠ [] ∧ xs.length ≤ 1000 ∧ ∀ v H', v ∈ xs → PurseAt p q (n + 1) H' → But2 p q H H' → Q v H'
theorem ok_pick (T : TxtZ K mg c b o z) : FnOk P w K mg base CX0 2 z.LawPick z.fdLawPick ["_law_purse_here", "_law_menu"] spPick := by
  have GLawDraw : FnOk P w K mg base CX0 1 z.LawDraw z.fdLawDraw ["_law_purse_here", "_law_many"] spDraw := ok_draw T
  refine T.fLawPick.ok scLawPick (fun vs H Q E h => ?_) (fun cdv A outer s H vs Q E hr h => ?_)
  · obtain ⟨p, q, l, n, xs, rfl, _⟩ := h
    rfl
  · obtain ⟨p, q, l, n, xs, rfl, hp, hn, hl, lp, lq, ne, hz, k⟩ := h
    refine ⟨_, (pss_one (ps_ret (by exact (pe_ix (r := rIxL K) ix_list (pv 1) (pe_call GLawDraw (hr.mono (by decide)) (by rfl) T.gLawDraw T.kLawDraw T.bLawDraw .nil pass0 (pa_cons (pv 0) (pa_cons (pe_callB call_len (by rfl) T.blen (by decide +kernel) (pa_cons (pv 1) pa_nil)) pa_nil))) (fun _ _ => rfl))))), ?_⟩
    have pos : 0 < xs.length := List.length_pos_iff.mpr ne
    refine ⟨_, rfl, _, rfl, _, rfl, _, _, rfl, .inl ⟨xs, sq_of hl, rfl⟩, ?_⟩
    refine ⟨p, q, n, (xs.length : Int), rfl, hp, hn, by omega, by omega, fun i H' i0 i1 hp' bt => ?_⟩
    obtain ⟨j, rfl⟩ : ∃ j : Nat, i = (j : Int) := ⟨i.toNat, (Int.toNat_of_nonneg i0).symm⟩
    have jl : j < xs.length := by omega
    have hl' := bt _ _ lp lq hl
    refine ⟨l, xs, (j : Int), xs[j], rfl, rfl, sq_of hl', ?_, k _ _ (List.getElem_mem jl) hp' bt⟩
    exact at_nat (List.getElem?_eq_getElem jl)
end
end L2.KB

set_option Elab.async false
set_option maxRecDepth 100000
set_option maxHeartbeats 400000
set_option linter.all false
/-! The law's words. -/
namespace L2.KB
open PySem PySem.Spec PyProof.Rows XK Evl XC TL
def alphaW : Str := "abcdefghijklmnopqrstuvwxyz"
def menuW : List Str := ["in", "a", "b", "me", "call", "late", "some", "none", "stand", "key", "ear", "gone"]
def lowW (z : Str) : Prop := ∀ c ∈ z.cps.toList, 97 ≤ c ∧ c ≤ 122
theorem alphaW_low : ∀ c ∈ alphaW.cps.toList, 97 ≤ c ∧ c ≤ 122 := by decide +kernel
theorem joinW : ∀ zs : List Nat, joinL [] ((zs.map fun c => (⟨#[c]⟩ : Str)).map tl) = zs
  | [] => rfl
  | [c] => rfl
  | c :: d :: zs => by
    have ih := joinW (d :: zs)
    simp only [List.map_cons, joinL, List.nil_append] at ih ⊢
    rw [ih]
    rfl
theorem tl_joinW (zs : List Nat) : tl (Txt.join Str.empty (zs.map fun c => (⟨#[c]⟩ : Str))) = zs := by
  rw [join_eq, tl_join]
  exact joinW zs
theorem sumW : ∀ zs : List Nat, ((zs.map fun c => (⟨#[c]⟩ : Str)).map (·.length)).sum = zs.length
  | [] => rfl
  | c :: zs => by
    rw [List.map_cons, List.map_cons, List.sum_cons, sumW zs, List.length_cons]
    show 1 + zs.length = _
    omega
theorem lowW_app {x y : Str} (hx : lowW x) (hy : lowW y) : lowW (x ++ y) := fun c hc => by
  have hc' : c ∈ tl (x ++ y) := hc
  rw [tl_append, List.mem_append] at hc'
  rcases hc' with h | h
  · exact hx c h
  · exact hy c h
theorem lowW_one {c : Nat} (h : 97 ≤ c ∧ c ≤ 122) : lowW ⟨#[c]⟩ := fun d hd => by
  have hd' : d ∈ [c] := hd
  rw [List.mem_singleton.mp hd']
  exact h
theorem lenW_app (x y : Str) : (x ++ y).length = x.length + y.length := by rw [len_tl, tl_append, List.length_append, ← len_tl, ← len_tl]
theorem word_name {s : Str} (h : KC.wordS s = true) : nameS s = true := by
  unfold KC.wordS at h
  unfold nameS
  simp only [Bool.and_eq_true] at h ⊢
  exact ⟨h.1, h.2.1⟩
theorem inS_false {z : Str} {ws : List Str} (h : z ∉ ws) : KC.inS z ws = false := by
  unfold KC.inS inV
  rw [List.any_map, List.any_eq_false]
  intro x hx
  have : z ≠ x := fun e => h (e ▸ hx)
  simp [eqV, this, this.symm]
theorem inS_iffW {z : Str} {ws : List Str} : KC.inS z ws = true ↔ z ∈ ws := by
  constructor
  · intro h
    by_cases q : z ∈ ws
    · exact q
    · rw [inS_false q] at h
      cases h
  · intro h
    unfold KC.inS inV
    rw [List.any_map, List.any_eq_true]
    exact ⟨z, h, by simp [eqV]⟩
theorem wordW {z : Str} (h1 : 1 ≤ z.length) (h8 : z.length ≤ 8) (hl : lowW z) (hp : z ∉ KC.wPartingWords) : KC.wordS z = true := by
  unfold KC.wordS KC.lenB
  rw [inS_false hp]
  simp only [Bool.and_eq_true, decide_eq_true_eq, Bool.not_false, and_true, List.all_eq_true]
  refine ⟨⟨by omega, by omega⟩, fun c hc => ?_⟩
  have := hl c hc
  rw [KC.letterC_eq, decide_eq_true this.1, decide_eq_true this.2]
  rfl
def cutB (at_ m : Nat) : Bool := decide ((menuW.drop at_).take m ≠ [] ∨ m = 0) && (decide (((menuW.drop at_).take m).length = m) && (decide ((menuW.drop at_).take m).Nodup && ((menuW.drop at_).take m).all KC.wordS))
theorem cut_ok : ∀ at_, at_ < 9 → ∀ m, m < 5 → cutB at_ m = true := by decide +kernel
theorem cut_is : ∀ at_, at_ < 9 → ∀ m, m < 5 → cutV (menuW.map V.str) (some (at_ : Nat)) (some (((at_ : Nat) : Int) + (m : Nat))) = ((menuW.drop at_).take m).map V.str := by
  intro at_ ha m hm
  match at_, ha, m, hm with
  | 0, _, 0, _ | 0, _, 1, _ | 0, _, 2, _ | 0, _, 3, _ | 0, _, 4, _ => rfl
  | 1, _, 0, _ | 1, _, 1, _ | 1, _, 2, _ | 1, _, 3, _ | 1, _, 4, _ => rfl
  | 2, _, 0, _ | 2, _, 1, _ | 2, _, 2, _ | 2, _, 3, _ | 2, _, 4, _ => rfl
  | 3, _, 0, _ | 3, _, 1, _ | 3, _, 2, _ | 3, _, 3, _ | 3, _, 4, _ => rfl
  | 4, _, 0, _ | 4, _, 1, _ | 4, _, 2, _ | 4, _, 3, _ | 4, _, 4, _ => rfl
  | 5, _, 0, _ | 5, _, 1, _ | 5, _, 2, _ | 5, _, 3, _ | 5, _, 4, _ => rfl
  | 6, _, 0, _ | 6, _, 1, _ | 6, _, 2, _ | 6, _, 3, _ | 6, _, 4, _ => rfl
  | 7, _, 0, _ | 7, _, 1, _ | 7, _, 2, _ | 7, _, 3, _ | 7, _, 4, _ => rfl
  | 8, _, 0, _ | 8, _, 1, _ | 8, _, 2, _ | 8, _, 3, _ | 8, _, 4, _ => rfl
/-- the k-th word: the stem and a letter -/
def lastC (at_ k : Nat) : Nat := alphaW.cps.toList.getD ((at_ + 3 * k) % 26) 97
def ownW (x : Str) (at_ k : Nat) : Str := x ++ ⟨#[lastC at_ k]⟩
theorem lastC_ok : ∀ at_, at_ < 9 → ∀ k, k < 4 → (97 ≤ lastC at_ k ∧ lastC at_ k ≤ 122) ∧ ∀ j, j < 4 → lastC at_ j = lastC at_ k → j = k := by decide +kernel
theorem part_stem : ∀ z ∈ KC.wPartingWords, tl z = [97, 110, 100] ∨ tl z = [105, 102] ∨ tl z = [110, 111, 116] := by decide +kernel
theorem stem_not {x : Str} {c : Nat} (h1 : x ≠ "i") (h2 : x ≠ "an") (h3 : x ≠ "no") : x ++ (⟨#[c]⟩ : Str) ∉ KC.wPartingWords := fun h => by
  have e := part_stem _ h
  rw [tl_append] at e
  have e1 : tl (⟨#[c]⟩ : Str) = [c] := rfl
  rw [e1] at e
  have key : ∀ l : List Nat, ∀ d, tl x ++ [c] = l ++ [d] → tl x = l := fun l d h => (List.append_inj' h rfl).1
  rcases e with e | e | e
  · exact h2 (ext_tl ((key [97, 110] 100 e).trans (by decide +kernel)))
  · exact h1 (ext_tl ((key [105] 102 e).trans (by decide +kernel)))
  · exact h3 (ext_tl ((key [110, 111] 116 e).trans (by decide +kernel)))
def WordsOk (ws : List Str) (m : Nat) : Prop := ws.length = m ∧ ws.Nodup ∧ ∀ x ∈ ws, KC.wordS x = true
theorem own_ok {x : Str} {at_ m : Nat} (ha : at_ < 9) (hm : m < 5) (hl : lowW x) (h7 : x.length ≤ 7) (h1 : x ≠ "i") (h2 : x ≠ "an") (h3 : x ≠ "no") : WordsOk ((List.range m).map (ownW x at_)) m := by
  refine ⟨by rw [List.length_map, List.length_range], ?_, fun y hy => ?_⟩
  · rw [List.nodup_iff_pairwise_ne, List.pairwise_map]
    refine List.Pairwise.imp_of_mem ?_ (List.nodup_iff_pairwise_ne.mp List.nodup_range)
    intro j k hj hk ne e
    have jm := List.mem_range.mp hj
    have km := List.mem_range.mp hk
    unfold ownW at e
    have e2 := congrArg tl e
    rw [tl_append, tl_append] at e2
    have e3 := (List.append_inj' e2 rfl).2
    have e4 : lastC at_ j = lastC at_ k := by
      have : [lastC at_ j] = [lastC at_ k] := e3
      simpa using this
    exact ne ((lastC_ok at_ ha k (by omega)).2 j (by omega) e4)
  · obtain ⟨k, hk, rfl⟩ := List.mem_map.mp hy
    have km := List.mem_range.mp hk
    have lc := (lastC_ok at_ ha k (by omega)).1
    unfold ownW
    have l1 : (⟨#[lastC at_ k]⟩ : Str).length = 1 := rfl
    exact wordW (by rw [lenW_app]; omega) (by rw [lenW_app]; omega) (lowW_app hl (lowW_one lc)) (stem_not h1 h2 h3)
end L2.KB

set_option Elab.async false
set_option maxRecDepth 100000
set_option maxHeartbeats 400000
set_option linter.all false
/-! The law's purse is made, words are called. -/
namespace L2.KB
open PySem PySem.Spec PyProof.Rows XK Evl XC TL
theorem given_all (n : Nat) (v : Nat → V) : given n (fun _ => true) v = (List.range n).map v := by
  unfold given
  rw [List.filter_eq_self.mpr (fun _ _ => rfl)]
theorem PurseAt.ne {p q : Addr} {n : Int} {H : Hp} (h : PurseAt p q n H) {l : Addr} (hl : H l = none) : l ≠ p ∧ l ≠ q := by
  obtain ⟨x, zs, h1, h2, _⟩ := h
  exact ⟨fun e => (by rw [e, h1] at hl; cases hl), fun e => (by rw [e, h2] at hl; cases hl)⟩
theorem PurseAt.upd {p q : Addr} {n : Int} {H : Hp} (h : PurseAt p q n H) {l : Addr} {o : HO} (l1 : l ≠ p) (l2 : l ≠ q) : PurseAt p q n (upd H l o) := by
  obtain ⟨x, zs, h1, h2, h3⟩ := h
  exact ⟨x, zs, by rw [upd_ne (Ne.symm l1)]; exact h1, by rw [upd_ne (Ne.symm l2)]; exact h2, h3⟩
def spCalled : Sp := fun vs H Q _ => ∃ (p q : Addr) (n : Int) (m : Nat), vs = [.ref p, .int (m : Int)] ∧ PurseAt p q n H ∧ n + 20 ≤ 1000000 ∧ m < 5 ∧
  ∀ ws l n' H', WordsOk ws m → n' ≤ n + 12 → PurseAt p q n' H' → But2 p q H H' → H l = none → H' l = some (.lst (ws.map V.str)) → Q (.ref l) H'
def spPurse (K : PySem.W.Frag) : Sp := fun vs H Q _ => ∃ (a : Addr) (ns : List Int), vs = [.ref a] ∧ SqL K H a (ns.map V.int) ∧ ns.length ≤ 63 ∧ ∀ p q H', PurseAt p q 0 H' → Ex H H' → H p = none → H q = none → Q (.ref p) H'
section
variable {P : Program} {w : World} {K : PySem.W.Frag} {mg : Str → Option Value} {base : Heap} {c : KC.AdrC} {b : KC.AdrH} {o : KC.AdrO} {z : AdrZ}
theorem ok_called (T : TxtZ K mg c b o z) : FnOk P w K mg base CX0 2 z.LawCalled z.fdLawCalled ["_law_purse_here", "_law_many"] spCalled := by
  have GLawDraw : FnOk P w K mg base CX0 1 z.LawDraw z.fdLawDraw ["_law_purse_here", "_law_many"] spDraw := ok_draw T
  refine T.fLawCalled.ok scLawCalled (fun vs H Q E h => ?_) (fun cdv A outer s H vs Q E hr h => ?_)
  · obtain ⟨p, q, n, m, rfl, _⟩ := h
    rfl
  · obtain ⟨p, q, n, m, rfl, hp, hn, hm, k⟩ := h
    refine ⟨_, (pss_cons (XK.ps_parC (i := 4) (j := 5) (by rfl) scLawCalled.nd rfl rfl (by first | exact Or.inl rfl | exact Or.inr rfl) (by first | exact Or.inl rfl | exact Or.inr rfl) (pa_cons (pe_lst (pa_cons pe_str (pa_cons pe_str (pa_cons pe_str (pa_cons pe_str (pa_cons pe_str (pa_cons pe_str (pa_cons pe_str (pa_cons pe_str (pa_cons pe_str (pa_cons pe_str (pa_cons pe_str (pa_cons pe_str pa_nil))))))))))))) (pa_cons (pe_call GLawDraw (hr.mono (by decide)) (by rfl) T.gLawDraw T.kLawDraw T.bLawDraw .nil pass0 (pa_cons (pv 0) (pa_cons pe_int pa_nil))) pa_nil)) (by rfl))
      (pss_cons (ps_if (pt_cmpR op_eq (pe_call GLawDraw (hr.mono (by decide)) (by rfl) T.gLawDraw T.kLawDraw T.bLawDraw .nil pass0 (pa_cons (pv 0) (pa_cons pe_int pa_nil))) pe_int (nomark _)) (pss_one (ps_ret (by exact (pe_slice (r := rSlL K) sl_list (pv 4) (po_some (pv 5)) (po_some (pe_op op_add (pv 5) (pv 1))))))) pss_nil)
      (pss_cons (ps_set (i := 2) scLawCalled.nd rfl (by first | exact Or.inl rfl | exact Or.inr rfl) (by exact pe_str))
      (pss_cons (ps_set (i := 3) scLawCalled.nd rfl (by first | exact Or.inl rfl | exact Or.inr rfl) (by exact (pe_bm PySem.F.plainAttrs_str PySem.F.slot_str_join PySem.F.type_str_join mt_join pe_str (pa_cons (pe_lc (own := [("_law_k", 6)]) (g := gName 6) (tt := tYes) rfl scLawCalled.nd (pi_range1 (by rfl) T.brange (pa_cons (pe_call GLawDraw (hr.mono (by decide)) (by rfl) T.gLawDraw T.kLawDraw T.bLawDraw .nil pass0 (pa_cons (pv 0) (pa_cons pe_int pa_nil))) pa_nil)) (blkOk_by (own := [("_law_k", 6)]) (N := NLawCalled) (sc := defScope sLawCalled) (by decide +kernel)) (fun _ _ _ _ _ => pg_name (i := 6) scLawCalled.nd rfl (Or.inl rfl)) (fun _ _ _ _ _ => by exact pts_nil) (fun _ _ _ _ _ => by exact (pe_ix ix_str (pv 2) (pe_call GLawDraw (hr.mono (by decide)) (by rfl) T.gLawDraw T.kLawDraw T.bLawDraw .nil pass0 (pa_cons (pv 0) (pa_cons pe_int pa_nil))) (fun _ _ => rfl)))) pa_nil))))
      (pss_cons (ps_set (i := 3) scLawCalled.nd rfl (by first | exact Or.inl rfl | exact Or.inr rfl) (by exact (pe_ifExp (pt_cmpR (r := rIn K false) op_in_seq (pv 3) (pe_lst (pa_cons pe_str (pa_cons pe_str (pa_cons pe_str pa_nil)))) (by rfl)) (pe_op op_add_str (pv 3) pe_str) (pv 3))))
      (pss_one (ps_ret (by exact (pe_lc (own := [("_law_k", 6)]) (g := gName 6) (tt := tYes) rfl scLawCalled.nd (pi_range1 (by rfl) T.brange (pa_cons (pv 1) pa_nil)) (blkOk_by (own := [("_law_k", 6)]) (N := NLawCalled) (sc := defScope sLawCalled) (by decide +kernel)) (fun _ _ _ _ _ => pg_name (i := 6) scLawCalled.nd rfl (Or.inl rfl)) (fun _ _ _ _ _ => by exact pts_nil) (fun _ _ _ _ _ => by exact (pe_op op_add_str (pv 3) (pe_ix ix_str (pv 2) (pe_op op_mod (pe_callTy call_int1 (by rfl) T.bint (by decide +kernel) (pa_cons (pe_op op_add (pv 5) (pe_op op_mul pe_int (pv 6))) pa_nil)) pe_int) (fun _ _ => rfl))))))))))))), ?_⟩
    dsimp only [tSeq, tPar, tLst, tCons]
    refine ⟨by decide +kernel, fun l hl => ?_⟩
    obtain ⟨lp, lq⟩ := hp.ne hl
    have hpl := hp.ex (Ex.new (o := .lst (menuW.map V.str)) hl)
    have b0 : But2 p q H (upd H l (.lst (menuW.map V.str))) := But2.ex (Ex.new hl)
    have hll : upd H l (.lst (menuW.map V.str)) l = some (.lst (menuW.map V.str)) := upd_same
    refine ⟨_, rfl, p, q, n, 9, rfl, hpl, by omega, by omega, by omega, fun at0 H1 a0 a1 hp1 b1 => ?_⟩
    obtain ⟨at_, rfl⟩ := Int.eq_ofNat_of_zero_le a0
    have at9 : at_ < 9 := by omega
    refine ⟨_, _, rfl, ?_⟩
    have b01 := b0.trans b1
    have hl1 := b1 _ _ lp lq hll
    refine ⟨_, rfl, p, q, n + 1, 3, rfl, hp1, by omega, by omega, by omega, fun d H2 d0 d1 hp2 b2 => ?_⟩
    have b02 := b01.trans b2
    have hl2 := b2 _ _ lp lq hl1
    refine ⟨rfl, _, rfl, if_b (fun _ => ?_) (fun _ => ?_)⟩
    · refine ⟨_, rfl, _, rfl, _, rfl, _, rfl, _, rfl, _, _, rfl, rfl, _, rfl, l, menuW.map V.str, rfl, sq_of hl2, fun r hr => ?_⟩
      have hr0 : H r = none := by
        cases e : H r with
        | none => rfl
        | some u =>
          obtain ⟨r1, r2⟩ := hp2.ne hr
          rw [b02 _ _ r1 r2 e] at hr
          cases hr
      have ck := cut_ok at_ at9 m hm
      unfold cutB at ck
      simp only [Bool.and_eq_true, decide_eq_true_eq, List.all_eq_true] at ck
      rw [cut_is at_ at9 m hm]
      exact k _ r _ _ ⟨ck.2.1, ck.2.2.1, ck.2.2.2⟩ (by omega) (hp2.ex (Ex.new hr)) (b02.trans (But2.ex (Ex.new hr))) hr0 upd_same
    · -- the stem
      refine ⟨rfl, ?_⟩
      refine ⟨_, rfl, p, q, n + 1 + 1, 7, rfl, hp2, by omega, by omega, by omega, fun sz H3 s0 s1 hp3 b3 => ?_⟩
      obtain ⟨sn, rfl⟩ := Int.eq_ofNat_of_zero_le s0
      have b03 := b02.trans b3
      refine ⟨(sn : Int), rfl, by omega, by omega, fun D hD => ?_⟩
      obtain ⟨Dp, Dq⟩ := hp3.ne hD
      refine lc_range (lo := 0) (n := sn) (fun i H' => ∃ zs : List Nat, zs.length = i ∧ (∀ c ∈ zs, 97 ≤ c ∧ c ≤ 122) ∧ PurseAt p q (n + 1 + 1 + 1 + i) H' ∧ H' D = some (.lst (zs.map fun c => V.str ⟨#[c]⟩)) ∧ But2 p q H3 H')
        ⟨[], rfl, fun c hc => (by cases hc), by have := hp3.ex (Ex.new (o := .lst []) hD); simpa using this, upd_same, But2.ex (Ex.new hD)⟩ ?_ ?_
      · rintro i H' hi ⟨zs, hzl, hz, hP, hD', hB⟩
        refine ⟨rfl, ?_⟩
        unfold tYes
        dsimp only
        rw [if_pos rfl]
        refine ⟨_, rfl, _, rfl, p, q, n + 1 + 1 + 1 + i, 26, rfl, hP, by omega, by omega, by omega, fun r H4 r0 r1 hP2 b4 => ?_⟩
        obtain ⟨j, rfl⟩ := Int.eq_ofNat_of_zero_le r0
        have hj : j < alphaW.cps.toList.length := by
          have : alphaW.cps.toList.length = 26 := by decide +kernel
          omega
        refine ⟨alphaW, (j : Int), alphaW.cps.toList[j], rfl, rfl, sz_of (by decide +kernel), atI_nat (List.getElem?_eq_getElem hj), ?_⟩
        refine ⟨_, b4 _ _ Dp Dq hD', sz_lt (by simp; omega), zs ++ [alphaW.cps.toList[j]], ?_, fun c hc => ?_, ?_, ?_, ?_⟩
        · simp [hzl]
        · rcases List.mem_append.mp hc with h | h
          · exact hz c h
          · rw [List.mem_singleton.mp h]
            exact alphaW_low _ (List.getElem_mem hj)
        · have e : n + 1 + 1 + 1 + ((i + 1 : Nat) : Int) = n + 1 + 1 + 1 + (i : Int) + 1 := by push_cast; omega
          rw [e]
          exact hP2.upd Dp Dq
        · rw [List.map_append]
          exact upd_same
        · intro b' u n1 n2 hbo
          have : b' ≠ D := fun e => by rw [e, hD] at hbo; cases hbo
          rw [upd_ne this]
          exact b4 _ _ n1 n2 (hB _ _ n1 n2 hbo)
      · rintro H4 ⟨zs, hzl, hz, hP4, hD4, hB4⟩
        have b04 := b03.trans hB4
        refine ⟨_, D, zs.map fun c => (⟨#[c]⟩ : Str), rfl, rfl, .inl (sq_of (by rw [hD4, List.map_map]; rfl)), ?_, ?_⟩
        · rw [sumW, List.length_map, hzl]
          show sn + sn * 0 ≤ _
          omega
        generalize hx0 : Txt.join (Str.ofString "") (zs.map fun c => (⟨#[c]⟩ : Str)) = x0
        have e0 : tl x0 = zs := by rw [← hx0]; exact tl_joinW zs
        have x0l : x0.length = sn := by rw [len_tl, e0, hzl]
        have x0w : lowW x0 := fun c hc => by
          have hc' : c ∈ tl x0 := hc
          rw [e0] at hc'
          exact hz c hc'
        dsimp only [tSeq, gName]
        obtain ⟨x1, hx1⟩ : ∃ x1 : Str, x1 = if KC.inS x0 ["i", "an", "no"] = true then x0 ++ ("q" : Str) else x0 := ⟨_, rfl⟩
        have lq1 : ("q" : Str).length = 1 := by decide +kernel
        refine s_asg (v := .str x1) (ev_if (b := KC.inS x0 ["i", "an", "no"]) (et_test (fun H5 e5 Q' q' => ⟨_, rfl, by decide +kernel, fun l3 hl3 => ⟨l3, ([("i" : Str), "an", "no"]).map V.str, rfl, .inl (sq_of upd_same), rfl, by rfl, q' _ (Ex.new hl3)⟩⟩)) (fun hb => ?_) (fun hb => ?_)) fun H5 e5 => ?_
        · rw [hx1, if_pos hb]
          exact ev_op (ev_var rfl) ev_c (rv_addS (by omega))
        · rw [hx1, if_neg (by rw [hb]; exact Bool.false_ne_true)]
          exact ev_var rfl
        have q_low : lowW ("q" : Str) := by unfold lowW; decide +kernel
        have facts : lowW x1 ∧ x1.length ≤ 7 ∧ x1 ≠ "i" ∧ x1 ≠ "an" ∧ x1 ≠ "no" := by
          rw [hx1]
          by_cases hb : KC.inS x0 ["i", "an", "no"] = true
          · rw [if_pos hb]
            have hm := inS_iffW.mp hb
            simp only [List.mem_cons, List.not_mem_nil, or_false] at hm
            refine ⟨lowW_app x0w q_low, by rw [lenW_app]; omega, ?_⟩
            rcases hm with rfl | rfl | rfl <;> decide +kernel
          · rw [if_neg hb]
            have hm : x0 ∉ (["i", "an", "no"] : List Str) := fun z => hb (inS_iffW.mpr z)
            simp only [List.mem_cons, List.not_mem_nil, or_false, not_or] at hm
            exact ⟨x0w, by omega, hm⟩
        obtain ⟨f1, f2, f3, f4, f5⟩ := facts
        dsimp only [List.set]
        have ow := own_ok (at_ := at_) (m := m) at9 hm f1 f2 f3 f4 f5
        refine s_retL (xs := (List.range m).map fun i => V.str (ownW x1 at_ i)) ?_ fun r H6 hr e6 h6 => ?_
        · have eg : ((List.range m).map fun i => V.str (ownW x1 at_ i)) = given (m : Int).toNat (fun _ => true) (fun i => V.str (ownW x1 at_ i)) := by
            rw [given_all, Int.toNat_natCast]
          rw [eg]
          refine el_lcR1 (fun _ => true) (fun i => V.str (ownW x1 at_ i)) (ea_cons (ev_var rfl) ea_nil) ⟨by omega, by omega⟩ (fun _ => rfl) (fun i H1 e1 hi H2 e2 Q2 q2 => q2 H2 (Ex.refl _)) (fun i H1 e1 hi _ => ?_)
          have al : alphaW.cps.toList.length = 26 := by decide +kernel
          have jl : (at_ + 3 * i) % 26 < alphaW.cps.toList.length := by rw [al]; exact Nat.mod_lt _ (by decide)
          have lc : lastC at_ i = alphaW.cps.toList[(at_ + 3 * i) % 26] := by
            unfold lastC
            rw [List.getD, List.getElem?_eq_getElem jl]
            rfl
          have ei : (((at_ : Nat) : Int) + 3 * (i : Int)) % 26 = (((at_ + 3 * i) % 26 : Nat) : Int) := by push_cast; rfl
          unfold ownW
          rw [lc]
          refine ev_op (ev_var rfl) (ev_op (x := .str alphaW) (y := .int ((((at_ : Nat) : Int) + 3 * (i : Int)) % 26)) (ev_var rfl) (ev_op (ev_cb (ea_cons (ev_op (ev_var rfl) (ev_op ev_c (ev_var rfl) (rv_I (.inl ⟨by decide, by decide⟩))) rv_I0) ea_nil) (rc_int _)) ev_c (rv_I (by decide))) (rv_ixS (by decide +kernel) (by rw [ei]; exact atI_nat (List.getElem?_eq_getElem jl)))) (rv_addS ?_)
          have l1 : (⟨#[alphaW.cps.toList[(at_ + 3 * i) % 26]]⟩ : Str).length = 1 := rfl
          omega
        · have hr0 : H r = none := by
            cases e : H r with
            | none => rfl
            | some u =>
              obtain ⟨r1, r2⟩ := (hP4.ex e5).ne hr
              rw [(b04.trans (But2.ex e5)) _ _ r1 r2 e] at hr
              cases hr
          refine k _ r _ H6 ow (by omega) ((hP4.ex e5).ex e6) ((b04.trans (But2.ex e5)).trans (But2.ex e6)) hr0 ?_
          rw [h6, List.map_map]
          rfl
end
end L2.KB

set_option Elab.async false
set_option maxRecDepth 100000
set_option maxHeartbeats 400000
set_option linter.all false
/-! The law's purse is made. -/
namespace L2.KB
open PySem PySem.Spec PyProof.Rows XK Evl XC TL
def absI (i : Int) : Int := if i < 0 then -i else i
section
variable {P : Program} {w : World} {K : PySem.W.Frag} {mg : Str → Option Value} {base : Heap} {c : KC.AdrC} {b : KC.AdrH} {o : KC.AdrO} {z : AdrZ}
theorem rc_abs {H : Hp} (i : Int) : RC (fun xs H Q => ∃ i, xs = [V.int i] ∧ Q (V.int (if i < 0 then -i else i)) H) [.int i] H (.int (absI i)) := fun H4 e4 R q => ⟨_, rfl, q _ (Ex.refl _)⟩
theorem ok_purse (T : TxtZ K mg c b o z) : FnOk P w K mg base CX0 1 z.LawPurse z.fdLawPurse ["_law_script"] (spPurse K) := by
  refine T.fLawPurse.ok scLawPurse (fun vs H Q E h => ?_) (fun cdv A outer s H vs Q E hr h => ?_)
  · obtain ⟨a, ns, rfl, _⟩ := h
    rfl
  · obtain ⟨a, ns, rfl, ha, hz, k⟩ := h
    refine ⟨_, (pss_cons (ps_set (i := 1) scLawPurse.nd rfl (by first | exact Or.inl rfl | exact Or.inr rfl) (by exact (pe_lst (pa_cons (pe_lc (own := [("_law_cell", 2)]) (g := gName 2) (tt := tYes) rfl scLawPurse.nd (pi_list (pv 0)) (blkOk_by (own := [("_law_cell", 2)]) (N := NLawPurse) (sc := defScope sLawPurse) (by decide +kernel)) (fun _ _ _ _ _ => pg_name (i := 2) scLawPurse.nd rfl (Or.inl rfl)) (fun _ _ _ _ _ => by exact pts_nil) (fun _ _ _ _ _ => by exact (pe_callB call_abs (by rfl) T.babs (by decide +kernel) (pa_cons (pe_callTy call_int1 (by rfl) T.bint (by decide +kernel) (pa_cons (pv 2) pa_nil)) pa_nil)))) (pa_cons pe_int (pa_cons pe_int pa_nil))))))
      (pss_cons (ps_for PassesOwn.never rfl (pi_list (pv 0)) (pg_name (i := 2) scLawPurse.nd rfl (by first | exact Or.inl rfl | exact Or.inr rfl)) (pss_one (ps_asg (pe_op op_mod (pe_callTy call_int1 (by rfl) T.bint (by decide +kernel) (pa_cons (pe_op op_add (pe_op op_add (pe_op op_mul (pe_ix (r := rIxL K) ix_list (pv 1) pe_int (fun _ _ => rfl)) pe_int) (pe_callTy call_int1 (by rfl) T.bint (by decide +kernel) (pa_cons (pv 2) pa_nil))) pe_int) pa_nil)) pe_int) (pg_sub (pv 1) pe_int set_list))))
      (pss_one (ps_ret (by exact (pv 1)))))), ?_⟩
    dsimp only [tSeq, tAsg, tLst, tCons]
    have at_ : ∀ {i : Nat} {x : V}, (ns.map V.int)[i]? = some x → ∃ y : Int, ns[i]? = some y ∧ x = .int y := fun {i x} h => by
      rw [List.getElem?_map] at h
      cases e : ns[i]? with
      | none => rw [e] at h; cases h
      | some y => rw [e] at h; exact ⟨y, rfl, (Option.some.inj h).symm⟩
    refine (el_lcL (xs := ns.map V.int) (fun _ => true) (fun i => V.int (absI (ns.getD i 0))) (ev_var rfl) ha (by rw [List.length_map]; omega) (fun _ => rfl) (fun i x H1 e1 hx H2 e2 Q2 q2 => q2 H2 (Ex.refl _)) (fun i x H1 e1 hx _ => ?_)) H (Ex.refl _) _ fun q H1 hq e1 hq1 => ?_
    · obtain ⟨y, hy, rfl⟩ := at_ hx
      have e : ns.getD i 0 = y := by rw [List.getD, hy]; rfl
      rw [e]
      exact ev_cb (ea_cons (ev_cb (ea_cons (ev_var rfl) ea_nil) (rc_int _)) ea_nil) (rc_abs _)
    · refine ⟨by show 3 ≤ sizeLine; decide, fun p hp => ?_⟩
      dsimp only [gName]
      have hpp : upd H1 p (.lst [.ref q, .int 90533, .int 0]) p = some (.lst [.ref q, .int 90533, .int 0]) := upd_same
      have pq : p ≠ q := fun e => by rw [e, hq1] at hp; cases hp
      have e0 : Ex H1 (hd [p] (upd H1 p (.lst [.ref q, .int 90533, .int 0]))) := fun x u h => by
        have nx : x ≠ p := fun e => by rw [e, hp] at h; cases h
        rw [hd_out (fun z => nx (List.mem_singleton.mp z)), upd_ne nx]
        exact h
      refine s_forLn (xs := ns.map V.int) (ev_var rfl) (ex_l (e1.trans (e0.trans hdEx)) ha) (fun i σ H' => ∃ v2 x, σ = [some (.ref a), some (.ref p), v2] ∧ H' p = some (.lst [.ref q, .int x, .int 0]) ∧ 0 ≤ x ∧ x < 2147483549 ∧ Ex H1 (hd [p] H'))
        (fun H2 e2 => ⟨none, 90533, rfl, e2 _ _ hpp, by decide, by decide, e0.trans (hd_ex e2)⟩) (fun i σ H' _ ⟨v2, x, _, _, _, _, h⟩ => ex_l (e1.trans (h.trans hdEx)) ha) (fun i xv σ H' hx ⟨v2, x, hσ, hp', x0, x1, hh⟩ => ?_) (fun σ H' ⟨v2, x, hσ, hp', x0, x1, hh⟩ => ?_)
      · obtain ⟨y, hy, rfl⟩ := at_ hx
        subst hσ
        dsimp only [List.set]
        refine s_setL (j := 1) (v := .int ((x * 40487 + y + 191) % 2147483549)) hp' ?_ (ev_var rfl) ev_c (by show 1 < 3; decide) fun H2 e2 => ?_
        · refine ev_op (ev_cb (ea_cons ?_ ea_nil) (rc_int _)) ev_c (rv_I (show (0 : Int) < 2147483549 by decide))
          refine ev_op (ev_op ?_ (ev_cb (ea_cons (ev_var rfl) ea_nil) (rc_int _)) rv_I0) ev_c rv_I0
          exact ev_op (ev_op (ev_var rfl) ev_c (rv_ixL (sq_of hp') rfl)) ev_c (rv_I (.inr ⟨by decide, by decide⟩))
        · refine ⟨_, _, rfl, upd_same, Int.emod_nonneg _ (by decide), Int.emod_lt_of_pos _ (by decide), fun b u h => ?_⟩
          have h' := hh _ _ h
          obtain ⟨n1, n2⟩ := hd_some h'
          rw [hd_out n1, upd_ne (fun z => n1 (by rw [z]; exact List.mem_singleton.mpr rfl))]
          exact e2 _ _ n2
      · subst hσ
        have hq' := hdEx _ _ (hh _ _ hq1)
        refine ⟨_, rfl, k p q H' ⟨x, (List.range ns.length).map fun i => absI (ns.getD i 0), hp', ?_, pq, by rw [List.length_map, List.length_range]; exact hz, x0, x1, by decide⟩ (e1.trans (hh.trans hdEx)) (fresh_back e1 hp) hq⟩
        rw [hq', given_all, List.length_map, List.map_map]
        rfl
end
end L2.KB

set_option Elab.async false
set_option maxRecDepth 100000
set_option maxHeartbeats 400000
set_option linter.all false
/-! What the law asks of a book. -/
namespace L2.KB
open PySem PySem.Spec PyProof.Rows XK Evl XC TL
/-! rows in order are one -/
def leS (a b : Str) : Prop := a.cps.toList ≤ b.cps.toList
theorem leS_of {a b : Str} (h : ltCps b.cps.toList a.cps.toList = false) : leS a b := by
  rw [ltCps_eq] at h
  exact List.not_lt.mp (of_decide_eq_false h)
theorem rising_pw : ∀ (l : List Str) (p : Str), risingS p l = true → (p :: l).Pairwise leS
  | [], p, _ => by simp
  | x :: r, p, h => by
    unfold risingS at h
    obtain ⟨h1, h2⟩ := Bool.and_eq_true_iff.mp h
    have px : leS p x := leS_of (by simpa using h1)
    have ih := rising_pw r x h2
    rw [List.pairwise_cons]
    refine ⟨fun y hy => ?_, ih⟩
    rcases List.mem_cons.mp hy with rfl | hy
    · exact px
    · exact List.le_trans px ((List.pairwise_cons.mp ih).1 y hy)
theorem sorted_pw {l : List Str} (h : sortedS l = true) : l.Pairwise leS := by
  cases l with
  | nil => exact .nil
  | cons x r => exact rising_pw r x h
theorem sorted_one {l l' : List Str} (h : sortedS l = true) (h' : sortedS l' = true) (p : l.Perm l') : l = l' :=
  List.Perm.eq_of_pairwise (fun a b _ _ ab ba => ext_tl (List.le_antisymm ab ba)) (sorted_pw h) (sorted_pw h') p
theorem shapedN : ∀ l : List Str, (∀ s ∈ l, nameS s = true) → PyData.canLayAll0 (l.map PyData.str) = true ∧ PyData.depthAll (l.map PyData.str) = 0
  | [], _ => ⟨rfl, rfl⟩
  | s :: l, h => by
    obtain ⟨h1, h2⟩ := shapedN l fun x hx => h x (List.mem_cons_of_mem _ hx)
    have h0 : PyData.strOk s = true := by
      unfold PyData.strOk
      rw [← Array.all_toList, List.all_eq_true]
      intro c hc
      have hs := h s List.mem_cons_self
      unfold nameS at hs
      have := List.all_eq_true.mp (Bool.and_eq_true_iff.mp hs).2 c hc
      rw [KC.letterC_eq, Bool.and_eq_true, decide_eq_true_eq, decide_eq_true_eq] at this
      exact decide_eq_true (by omega)
    constructor
    · simp only [List.map_cons, PyData.canLayAll0, h1, Bool.and_true, PyData.canLay0]
      exact h0
    · simp only [List.map_cons, PyData.depthAll, h2, PyData.depth, Nat.max_self]
theorem shapedT {l : List Str} (h : ∀ s ∈ l, nameS s = true) : SeqAt.shaped (.tuple (l.map PyData.str)) = true := by
  obtain ⟨h1, h2⟩ := shapedN l h
  unfold SeqAt.shaped
  simp only [PyData.canLay0, PyData.depth, h1, h2]
  decide
theorem dpStrs {K : PySem.W.Frag} {H : Hp} : ∀ l : List Str, DpAll K H (l.map V.str) (l.map PyData.str)
  | [] => .nil
  | s :: l => .cons (.str s) (dpStrs l)
theorem name_len {s : Str} (h : nameS s = true) : s.length ≤ 8 := by
  have q := (Bool.and_eq_true_iff.mp h).1
  unfold KC.lenB at q
  simp at q
  omega
theorem pass_E0 {X : Cx} {P : Program} {w : World} : Passes (L2N.CX P w) X E0 := fun _ _ _ _ _ _ _ h => by
  obtain ⟨_, _, _, _, _, _, _, _, _, _, _, _, k⟩ := h
  exact k.elim
def Named (m : Ms) : Prop := ∀ q ∈ m, nameS q.1 = true
def spKept (K : PySem.W.Frag) (o : KC.AdrO) (z : AdrZ) : Sp := fun vs H Q _ => ∃ (G : List Addr) (x kn : Addr) (m : Ms) (n : Nat), vs = [.ref x, .ref kn, .int (n : Int)] ∧ BookAt K o z G H x m n ∧ Named m ∧ H kn = some (.dK (kvV m)) ∧ ∀ H', Ex H H' → Q (.bl true) H'
section
variable {P : Program} {w : World} {K : PySem.W.Frag} {mg : Str → Option Value} {base : Heap} {c : KC.AdrC} {b : KC.AdrH} {o : KC.AdrO} {z : AdrZ}
theorem ok_kept (T : TxtZ K mg c b o z) : FnOk P w K mg base CX0 5 z.LawKept z.fdLawKept ["_law_book", "_law_known", "_law_changes"] (spKept K o z) := by
  have GBookNames : FnOk P w K mg base CX0 1 z.BookNames z.fdBookNames ["self"] (spNames K o z) := ok_names T
  have GBookChanges : FnOk P w K mg base CX0 1 z.BookChanges z.fdBookChanges ["self"] (spChanges K o z) := ok_changes T
  have GBookWishes : FnOk P w K mg base CX0 1 z.BookWishes z.fdBookWishes ["self"] (spWishes K o z) := ok_wishes T
  have GBookLen : FnOk P w K mg base CX0 1 z.BookLen z.fdBookLen ["self"] (spBkLen K o z) := ok_bkLen T
  have GBookBool : FnOk P w K mg base CX0 1 z.BookBool z.fdBookBool ["self"] (spBkBool z) := ok_bkBool T
  have GBookContains : FnOk P w K mg base CX0 1 z.BookContains z.fdBookContains ["self", "x"] (spBkIn K o z) := ok_bkIn T
  have GBookGetitem : FnOk P w K mg base (L2N.CX P w) 3 z.BookGetitem z.fdBookGetitem ["self", "at"] (spGetB K o z) := ok_getB T
  have GHEq : FnOk P w K mg base CX0 1 z.HEq z.fdHEq ["self", "other"] (spEqW o.House) := ok_heq T
  have GBookInit : FnOk P w K mg base CX0 3 z.BookInit z.fdBookInit ["self"] (spBookI K o z) := ok_bookI T
  refine T.fLawKept.ok scLawKept (fun vs H Q E h => ?_) (fun cdv A outer s H vs Q E hr h => ?_)
  · obtain ⟨G, x, kn, m, n, rfl, _⟩ := h
    rfl
  · obtain ⟨G, x, kn, m, n, rfl, hb, hnm, hkn, k⟩ := h
    refine ⟨_, (pss_cons (ps_set (i := 3) scLawKept.nd rfl (by first | exact Or.inl rfl | exact Or.inr rfl) (by exact (pe_callB (call_sortedD rfl) (by rfl) T.bsorted (by decide +kernel) (pa_cons (pv 1) pa_nil))))
      (pss_cons (ps_if (PW.pt (pw_or (pt_cmpR (r := rNeD K) (op_neD hr.units) (pe_prop (pv 0) T.clBook T.prBookNames GBookNames (hr.mono (by decide)) T.bBookNames .nil pass0 (by rfl)) (pe_callTy call_tuple_of (by rfl) T.btuple (by decide +kernel) (pa_cons (pv 3) pa_nil)) (nomark _)) (pw_or (pt_cmpR op_ne (pe_callB (id := "len") (r := rLenOwn z.Book (spBkLen K o z)) (call_lenOwn T.hBookLen T.fnBookLen GBookLen T.bBookLen (hr.mono (by decide))) (by rfl) T.blen (by decide +kernel) (pa_cons (pv 0) pa_nil)) (pe_callB call_len (by rfl) T.blen (by decide +kernel) (pa_cons (pv 3) pa_nil)) (nomark _)) (pw_or (pt_cmpR op_ne (pe_prop (pv 0) T.clBook T.prBookChanges GBookChanges (hr.mono (by decide)) T.bBookChanges .nil pass0 (by rfl)) (pv 2) (nomark _)) (pw_or1 (pt_cmpR (r := rNeD K) (op_neD hr.units) (pe_prop (pv 0) T.clBook T.prBookWishes GBookWishes (hr.mono (by decide)) T.bBookWishes .nil pass0 (by rfl)) (pe_tup pa_nil) (nomark _))))))) (pss_one (ps_ret (by exact pe_bl))) pss_nil)
      (pss_cons (ps_if (pt_not (pt_val (pe_callB (cr_all rfl) (by rfl) T.ball (by decide +kernel) (pa_cons (pe_lc (own := [("_law_word", 4)]) (g := gName 4) (tt := tYes) rfl scLawKept.nd (pi_list (pv 3)) (blkOk_by (own := [("_law_word", 4)]) (N := NLawKept) (sc := defScope sLawKept) (by decide +kernel)) (fun _ _ _ _ _ => pg_name (i := 4) scLawKept.nd rfl (Or.inl rfl)) (fun _ _ _ _ _ => by exact pts_nil) (fun _ _ _ _ _ => by exact (pe_and (pe_cmpR (r := rEqOwn K o.House (spEqW o.House)) (op_eqOwn T.hHEq T.fnHEq GHEq T.bHEq (hr.mono (by decide))) (XK.pe_getOwn (E := _) T.hBookGetitem T.fkBookGetitem T.fnBookGetitem GBookGetitem T.bBookGetitem (hr.mono (by decide)) pass_E0 (pv 0) (pv 4)) (pe_dget (units1 hr) (pv 1) (pv 4) (fun _ _ => rfl)) (nomark _)) (pe_one (pe_cmpR (r := XK.rInOwn z.Book (spBkIn K o z) E0) (XK.op_inOwn T.hBookContains T.fnBookContains GBookContains T.bBookContains (hr.mono (by decide)) pass0) (pv 4) (pv 0) (by rfl)))))) pa_nil)))) (pss_one (ps_ret (by exact pe_bl))) pss_nil)
      (pss_one (ps_ret (by exact (pe_and (pe_cmpR (r := XK.rEqSelf z.Book) (XK.op_eqSelf T.bkm T.bkeq (Nat.lt_of_succ_lt (units1 hr))) (pv 0) (pv 0) (nomark _)) (pe_and (pe_not (pe_cmpR (r := XK.rNeId z.Book) (XK.op_neId T.bkm T.bkeq T.bkne (units1 hr)) (pv 0) (pv 0) (nomark _))) (pe_and (pe_cmpR (r := XK.rNeId z.Book) (XK.op_neId T.bkm T.bkeq T.bkne (units1 hr)) (pv 0) (pe_make0 T.mkBook GBookInit (hr.mono (by decide)) (by rfl) T.gBook T.bBookInit .nil pass0) (nomark _)) (pe_one (pe_callTy (r := rBoolOwn z.Book (spBkBool z)) (call_boolOwn T.hBookBool T.fnBookBool GBookBool T.bBookBool (hr.mono (by decide))) (by rfl) T.bbool (by decide +kernel) (pa_cons (pv 0) pa_nil)))))))))))), ?_⟩
    obtain ⟨dx, pg, hx, _⟩ := hb.ob
    have z60 := hb.sz
    refine ⟨_, rfl, kn, kvV m, m.map (·.1), rfl, .inl hkn, by unfold kvV; rw [List.map_map, List.map_map]; rfl, by rw [List.length_map]; omega, fun ys p perm srt hp => ?_⟩
    have e1 := Ex.new (o := .lst (ys.map V.str)) hp
    have hpl : upd H p (.lst (ys.map V.str)) p = some (.lst (ys.map V.str)) := upd_same
    generalize hH1 : upd H p (.lst (ys.map V.str)) = H1 at e1 hpl
    have ylen : ys.length = m.length := by rw [perm.length_eq, List.length_map]
    have yname : ∀ s ∈ ys, nameS s = true := fun s hs => by
      obtain ⟨q, hq, rfl⟩ := List.mem_map.mp (perm.mem_iff.mp hs)
      exact hnm q hq
    dsimp only [tSeq, gName]
    have hx1 := e1 _ _ hx
    have hb1 := hb.ex e1
    have hk1 := e1 _ _ hkn
    refine ⟨_, rfl, x, dx, _, rfl, hx1, G, x, m, n, rfl, hb1, fun ss t H2 perm2 srt2 e2 ht => ?_⟩
    obtain rfl : ss = ys := sorted_one srt2 srt (perm2.trans perm.symm)
    refine ⟨_, rfl, p, ss.map V.str, rfl, .inl ⟨sq_of (e2 _ _ hpl), fun t2 ht2 => ?_⟩⟩
    have e3 : Ex H2 (upd H2 t2 (.tup (ss.map V.str))) := Ex.new ht2
    refine ⟨.tuple (ss.map .str), .tuple (ss.map .str), .tup (st_of (e3 _ _ ht)) (dpStrs _), .tup (st_of upd_same) (dpStrs _), shapedT yname, shapedT yname, ?_⟩
    rw [SeqAt.eqv_refl _ (SeqAt.canLay_of_shaped (shapedT yname))]
    refine ⟨_, rfl, if_n rfl ?_⟩
    have e13 := e2.trans e3
    refine ⟨_, rfl, x, dx, _, rfl, e13 _ _ hx1, G, x, m, n, rfl, hb1.ex e13, fun H4 e4 => ⟨_, rfl, by omega, by omega, ?_⟩⟩
    have e14 := e13.trans e4
    refine ⟨_, rfl, _, _, rfl, .inl ⟨_, sq_of (e14 _ _ hpl), rfl⟩, ?_⟩
    refine ⟨rfl, _, rfl, if_n ?_ ?_⟩
    · rw [List.length_map, ylen]
      simp
    refine ⟨_, rfl, x, dx, _, rfl, e14 _ _ hx1, G, x, m, n, rfl, hb1.ex e14, fun H5 e5 => ?_⟩
    have e15 := e14.trans e5
    refine ⟨_, rfl, rfl, _, rfl, if_n ?_ ?_⟩
    · simp
    refine ⟨_, rfl, x, dx, _, rfl, e15 _ _ hx1, G, x, m, n, rfl, hb1.ex e15, fun t3 H6 e6 ht3 => ?_⟩
    have e16 := e15.trans e6
    refine ⟨by show 0 ≤ sizeLine; decide, fun t4 ht4 => ?_⟩
    have e7 : Ex H6 (upd H6 t4 (.tup [])) := Ex.new ht4
    have e17 := e16.trans e7
    refine ⟨.tuple [], .tuple [], .tup (ex_t e7 ht3) .nil, .tup (st_of upd_same) .nil, by decide, by decide, ?_⟩
    refine ⟨_, rfl, if_n (by decide) ?_⟩
    generalize upd H6 t4 (.tup []) = H7 at e17
    -- each house is the one that was put
    have el : EvL (tLc (iList K (tVar 3)) (gName 4) tYes (tAndV (tOp (rEqOwn K o.House (spEqW o.House)) (tOp (rGetOwn z.Book (spGetB K o z) E0) (tVar 0) (tVar 4)) (tDGet (tVar 1) (tVar 4))) (tOp (rInOwn z.Book (spBkIn K o z) E0) (tVar 4) (tVar 0))) [4])
        ((start NLawKept [.ref x, .ref kn, .int (n : Int)]).set 3 (some (.ref p))) H7 (given (ss.map V.str).length (fun _ => true) fun _ => V.bl (true && true)) := by
      refine el_lcL (fun _ => true) (fun _ => V.bl (true && true)) (ev_var rfl) (sq_of (e17 _ _ hpl)) (by rw [List.length_map]; omega) (fun _ => rfl) (fun i v H8 e8 hv H9 e9 Q2 q2 => q2 H9 (Ex.refl _)) (fun i v H8 e8 hv _ => ?_)
      obtain ⟨s, hs, rfl⟩ : ∃ s, s ∈ ss ∧ v = .str s := by
        rw [List.getElem?_map] at hv
        cases e : ss[i]? with
        | none => rw [e] at hv; cases hv
        | some s => rw [e] at hv; exact ⟨s, List.mem_of_getElem? e, (Option.some.inj hv).symm⟩
      obtain ⟨q, hq, hqs⟩ := List.mem_map.mp (perm.mem_iff.mp hs)
      obtain ⟨j, hj⟩ := List.mem_iff_getElem?.mp hq
      have lk : m.lookup s = some q.2 := by rw [← hqs]; exact look_at hb.nd hj
      have sl : s.length ≤ 100000 := by have := name_len (yname s hs); omega
      have e18 := e17.trans e8
      have im : inM (.str s) m = true := by show (m.lookup s).isSome = true; rw [lk]; rfl
      refine ev_andV (fun H9 e9 Q2 q2 => ?_) (fun _ H9 e9 Q2 q2 => ?_)
      · have e19 := e18.trans e9
        refine ⟨_, rfl, _, rfl, x, dx, _, rfl, e19 _ _ hx1, G, x, .str s, .str s, m, n, rfl, hb1.ex e19, .str s sl, fun s' a es ha H10 e10 => ?_, fun hf => by rw [im] at hf; cases hf⟩
        cases es
        obtain rfl : a = q.2 := by rw [lk] at ha; exact (Option.some.inj ha).symm
        have e110 := e19.trans e10
        obtain ⟨_, _, _, _, _, _, _, _, _, _, _, _, h5⟩ := (hb1.ex e110).open_
        obtain ⟨dxh, l, st, ky, rw1, tx, hh⟩ := (h5 q hq).ex hdEx
        refine ⟨_, rfl, _, rfl, kn, .ref q.2, rfl, ?_, ?_⟩
        · have lv : valV (kvV m) (Sum.inr s) = some (.ref q.2) := by rw [valV_kv, lk]; rfl
          rw [← lv]
          exact .k (k := Sum.inr s) (e110 _ _ hk1)
        · exact ⟨q.2, dxh, _, rfl, hh, .ins hh T.nfH, q.2, rfl, ⟨dxh, l, st, ky, rw1, tx, hh⟩, fun H11 e11 => ⟨true, rfl, q2 H11 (e10.trans e11)⟩⟩
      · have e19 := e18.trans e9
        refine ⟨_, rfl, _, rfl, x, dx, _, rfl, e19 _ _ hx1, G, x, .str s, .str s, m, n, rfl, hb1.ex e19, .str s sl, fun H10 e10 => ⟨_, rfl, ?_⟩⟩
        rw [im]
        exact q2 H10 e10
    dsimp only [tNext, tSeq, tIfS, tNot, tB, tCB, tCons]
    refine el H7 (Ex.refl _) _ fun p2 H8 hp2 e8 h8 => ?_
    refine ⟨p2, (List.range (ss.map V.str).length).map fun _ => true, rfl, sq_of (by rw [h8, given_all, List.map_map]; rfl), ?_⟩
    have alltrue : ((List.range (ss.map V.str).length).map fun _ => true).all id = true := by simp
    rw [alltrue]
    refine ⟨_, rfl, if_n rfl ?_⟩
    have e18 := e17.trans e8
    have hx8 := e18 _ _ hx1
    refine ⟨_, rfl, _, rfl, x, dx, _, rfl, rfl, hx8, true, rfl, if_y rfl ?_⟩
    refine ⟨_, rfl, _, rfl, x, x, dx, dx, _, _, rfl, rfl, hx8, hx8, ?_⟩
    refine ⟨_, rfl, true, by simp, if_y rfl ?_⟩
    refine ⟨_, rfl, ?_⟩
    intro x2 dx2 hx2 hdx2 hne
    refine ⟨x2, dx2, rfl, upd_same, fun H9 pg9 bt hx9 _ => ⟨rfl, ?_⟩⟩
    have e9 := made_ex hx2 hdx2 bt
    have nx : x ≠ x2 := fun e => by rw [← e, hx8] at hx2; cases hx2
    refine ⟨x, x2, dx, dx2, _, _, rfl, rfl, e9 _ _ hx8, hx9, true, by simp [nx], if_y rfl ?_⟩
    refine ⟨_, rfl, x, dx, _, rfl, e9 _ _ hx8, x, dx, _, rfl, e9 _ _ hx8, fun H10 e10 => ⟨true, rfl, ?_⟩⟩
    exact k H10 (((e1.trans e18).trans e9).trans e10)
end
end L2.KB

set_option Elab.async false
set_option maxRecDepth 100000
set_option maxHeartbeats 4000000
set_option linter.all false
/-! A def that is called in an except suite with the caught exception: isinstance and a field of it. -/
namespace L2.XK
open PySem PySem.Spec PyProof.Rows XC Evl L2H
/-- what a def promises where the exception p is handled; the promise may speak of p -/
structure FnP (P : Program) (w : World) (K : PySem.W.Frag) (mg : Str → Option Value) (base : Heap) (k : Nat) (f : Addr) (fd : FuncData) (ps : List Str) (sp : Addr × Obj → Sp) : Prop where
  len : ∀ p vs H Q E, sp p vs H Q E → vs.length = ps.length
  run : ∀ (A : Around) (outer : List Env) (s : Shared) (H : Hp) (args : Args) (us : List Value) (vs : List V) (Q : VK) (E : XK) (p : Addr × Obj), RoomH k A → Hot1 A p → PinOk outer H s p →
    Env0 P w K mg base A outer s H → BindsTo s fd args (ps.zip us) → Vals vs us → sp p vs H Q E → codeAny (model P w) A (.call (.ref f) args) (CR CX0 outer P w H s Q E) s
section
variable {P : Program} {w : World} {K : PySem.W.Frag} {mg : Str → Option Value} {base : Heap}
theorem Fun.okP {x qual : Str} {st : Stmt} {f : Addr} {fd : FuncData} {N ps : List Str} {k : Nat} {sp : Addr × Obj → Sp} (F : Fun K x qual st f fd) (S : FnScope N ps (defScope st))
    (len : ∀ p vs H Q E, sp p vs H Q E → vs.length = ps.length)
    (hbody : ∀ (cdv : Value) (A : Around) (outer : List Env) (s : Shared) (H : Hp) (vs : List V) (Q : VK) (E : XK) (p : Addr × Obj), Hot1 A p → RoomH k (A.deeper (envOfC qual (defScope st) s.heap.objs.size f cdv)) → sp p vs H Q E →
      ∃ t, PSs (cxH CX0 P w K mg base N qual (defScope st) f cdv A outer s H E p) (defBody st) t ∧ t { nx := fun _ H' => Q .non H', rt := Q } (start N vs) H) : FnP P w K mg base (k + 1) f fd ps sp := by
  obtain ⟨oc, od, kV, doc, pm, an, cdv, ct, osl, rfl, lk, hcd⟩ := F.ex
  refine ⟨len, fun A outer s H args us vs Q E p hr hot hpin e0 hb r hsp => ?_⟩
  have hl := len _ _ _ _ _ hsp
  have KX : K.In s.heap := e0.mod.kin.keeps fun b o e => (e0.bs b o e).1
  have lim : s.heap.NoLimit := e0.mod.nolimit.keeps fun b o e => (e0.bs b o e).1
  have kinds : ∀ y ∈ ps.zip us, (defScope st).names.lookup y.1 = some .local ∨
      ((defScope st).names.lookup y.1 = some .cell ∧ ((cellsFrom (s.heap.objs.size + 1) (defScope st).names []).lookup y.1).isSome = true) := by
    rintro ⟨n, v⟩ hy
    rcases S.par n (List.of_mem_zip hy).1 with q | q
    · exact .inl q
    · exact .inr ⟨q, PySem.W.cellsFrom_some _ _ _ (.inl q)⟩
  refine codeAny_call_function hr.depth (KX _ _ lk) rfl S.co S.gen rfl (PySem.W.codeRec_of KX hcd) (hb _ _ _ _ ?_)
  refine wpAny_newFunctionEnv_cells S.kind kinds fun env he s1 x => ?_
  subst he
  refine ⟨lim.keeps x.toInCall.keep, codeAny_func ?_⟩
  obtain ⟨t, ht, hq⟩ := hbody cdv A outer s H vs Q E p hot (hr.deeper _) hsp
  have I := inv_startH (CX := CX0) (E := E) S hpin e0 hl r x
  refine wpAny_mono (ht.run [] s1 (start N vs) H _ I hq) (fun fl s' hs => ?_) fun e s' hs => hs
  cases fl with
  | ret u =>
    obtain ⟨v, σ', H', J, rv, q⟩ := hs
    exact ⟨v, H', J.os, J.bare, J.base, J.hok, rv, q⟩
  | next =>
    obtain ⟨σ', H', J, q⟩ := hs
    exact ⟨V.non, H', J.os, J.bare, J.base, J.hok, rfl, q⟩
  | brk =>
    obtain ⟨_, _, _, q⟩ := hs
    exact q.elim
  | cont =>
    obtain ⟨_, _, _, q⟩ := hs
    exact q.elim
end
section
variable {X : Cx} {k : Nat} {f : Addr} {fd : FuncData} {ps : List Str} {sp : Addr × Obj → Sp} {x : Str} {p : Addr × Obj} {q pos : Pos} {e : Expr} {es : List Expr} {t : TA}
/-- f(e, ..) in the suite of p -/
theorem pe_callP (F : FnP X.prog X.w X.K X.mg X.base k f fd ps sp) (hr : RoomH k X.A) (hot : Hot1 X.A p) (hp : p ∈ X.pn) (hg : Gl X x) (hm : X.mg x = some (.ref f)) (hk : PySem.W.keepIn X.K (.ref f) = true) (hb : Binds X.K fd ps [])
    (ha : PA X (e :: es) t) (hdb : (x == ("__debug__" : Str)) = false := by decide) (he : starEach (e :: es) X.env = (false, eval e X.env) :: starEach es X.env := by rfl)
    (hpl : (backTo pos (starEach es X.env)).any (·.1) = false := by rfl) : PE X (.Call (.Name x q) (e :: es) [] pos) (tCall (sp p) [] E0 t) := by
  refine ⟨fun pins s σ H Q I h => ?_⟩
  refine wpAny_Call_Name_kw (ld_glob I hg hm ?_ hdb)
  refine PySem.W.callWith_K (h₀ := X.base) I.ok.mod.kin hk ?_ he hpl
  refine thn (ha.run pos pins s σ H _ I h) fun us s1 ⟨vs, H1, I1, r, q0⟩ => ⟨I1.kIn, ?_⟩
  have q1 : sp p (vs ++ []) H1 Q E0 := q0
  rw [List.append_nil] at q1
  have hl : us.length = ps.length := by
    rw [← r.length]
    exact F.len _ _ _ _ _ q1
  have bb := hb s1 us I1.kIn (by rw [List.append_nil]; exact hl)
  rw [List.append_nil] at bb
  have P1 := I1.pin p (List.mem_append_left _ hp)
  have hpin : PinOk X.stack H1 s1 p := ⟨P1.1, P1.2.1, fun hm => (List.mem_cons.mp (I1.stkSub p.1 hm)).elim P1.2.2.1 P1.2.2.2.1, P1.2.2.2.2⟩
  refine wpAny_call (codeAny_mono (F.run X.A X.stack s1 H1 ⟨us, []⟩ us vs Q E0 p hr hot hpin I1.env0 bb r q1) fun r s' hq => ?_)
  cases r with
  | error e => exact hq.elim
  | ok fl =>
    cases fl with
    | ret u => exact I1.after hq
    | next => exact hq.elim
    | brk => exact hq.elim
    | cont => exact hq.elim
/-- the pinned exception: its class, its own dict -/
structure PinX (p : Addr × Obj) (C : Addr) (d : Option Addr) : Prop where
  cls : p.2.cls = .ref C
  dic : p.2.dict = d
  dat : ∃ vs, p.2.data = .fields vs
/-- isinstance(e, c), e the pinned exception -/
def rIsP (K : PySem.W.Frag) (p : Addr × Obj) : List V → Hp → VK → Prop := fun xs H Q => ∃ (C : Addr) (d : Option Addr) (c : V) (u : Value) (b : Bool), xs = [.ref p.1, c] ∧ PinX p C d ∧
  (∀ z, d = some z → ∃ fs, H z = some (.xd fs)) ∧ XIs K C ∧ ClsV c u ∧ PySem.W.kitOne K (.ref C) u = some b ∧ Q (.bl b) H
theorem notCls_fields {o : Obj} (h : ∃ vs, o.data = .fields vs) : PySem.W.notCls o = true := by
  obtain ⟨vs, e⟩ := h
  unfold PySem.W.notCls
  rw [e]
theorem pin_none {s : Shared} {C : Addr} (h : PinX p C none) (g : s.heap.get? p.1 = some p.2) : PySem.W.InstAt s.heap p.1 p.2 C none := ⟨g, h.cls, notCls_fields h.dat, by rw [h.dic]; exact True.intro⟩
theorem pin_some {s : Shared} {C z : Addr} {o : Obj} (h : PinX p C (some z)) (g : s.heap.get? p.1 = some p.2) (ho : s.heap.get? z = some o) : PySem.W.InstAt s.heap p.1 p.2 C (some o) := ⟨g, h.cls, notCls_fields h.dat, by rw [h.dic]; exact ho⟩
theorem call_isP (hp : p ∈ X.pn) : CallR X (.builtin "isinstance") (rIsP X.K p) := by
  intro pins s σ H xs us Q I r h
  obtain ⟨C, d, c, u, b, rfl, px, ed, T, k, e, q⟩ := h
  obtain ⟨u1, u2, rfl, r1, r2⟩ := vals2 r
  have e2 := k.eq r2
  subst e2
  cases (show u1 = Value.ref p.1 from r1)
  have g := (I.pin p (List.mem_append_left _ hp)).1
  cases d with
  | none => exact PySem.W.kia_one (PySem.W.kitx_exc T.cl T.ga T.gg T.exC T.cC T.hn T.tk T.mo) I.kIn (pin_none px g) e (fun z => nomatch z) fun tk => ⟨.bl b, H, I.tok tk, rfl, q⟩
  | some d =>
    obtain ⟨fs, ez⟩ := ed d rfl
    obtain ⟨mA, hns, hr⟩ := (show ObjOk X.prog X.w H s.heap d (.xd fs) from I.hok d _ ez)
    obtain ⟨od, ho, hl⟩ := lookIn_ns hns
    exact PySem.W.kia_one (PySem.W.kitx_exc T.cl T.ga T.gg T.exC T.cC T.hn T.tk T.mo) I.kIn (pin_some px g ho) e (fun z => nomatch z) fun tk => ⟨.bl b, H, I.tok tk, rfl, q⟩
/-- e.f, e the pinned exception -/
def tPFld (K : PySem.W.Frag) (p : Addr × Obj) (f : Str) (te : TE) : TE := fun σ H Q => te σ H fun x H1 => ∃ (C d : Addr) (fs : List (Str × V)) (v : V), x = .ref p.1 ∧ PinX p C (some d) ∧ H1 d = some (.xd fs) ∧ fs.lookup f = some v ∧
  (∃ B newId initId bmB, EC K C B newId initId bmB) ∧ PySem.W.findIn K (.ref C) f = some none ∧ Q v H1
theorem pe_pfld {te : TE} {n : Str} (hp : p ∈ X.pn) (he : PE X e te) (hb : attributeBase e n X.env (eval e X.env) = eval e X.env := by rfl) : PE X (.Attribute e n pos) (tPFld X.K p n te) := by
  refine ⟨fun pins s σ H Q I h => ?_⟩
  refine attr_of hb (thn (he.run pins s σ H _ I h) fun u s1 hh => ?_)
  obtain ⟨x, H1, I1, rx, C, d, fs, v, ex, px, ed, el, ⟨B, newId, initId, bmB, T⟩, nf, q⟩ := hh
  subst ex
  obtain rfl : u = Value.ref p.1 := rx
  have g := (I1.pin p (List.mem_append_left _ hp)).1
  obtain ⟨mA, hns, hr⟩ := (show ObjOk X.prog X.w H1 s1.heap d (.xd fs) from I1.hok d _ ed)
  obtain ⟨od, ho, hl⟩ := lookIn_ns hns
  obtain ⟨u, hu, ru⟩ := RelO.some_of (v := v) (o := mA n) (by rw [← el]; exact hr n)
  exact HandSPX.exc_get I1.kIn (pin_some px g ho) T.ga T.gg T.exC (PySem.W.findObj_own T.hd nf rfl (by rw [hl, hu])) (handed_of ru) ⟨v, H1, I1.tok _, ru, q⟩
end
end L2.XK

set_option Elab.async false
set_option maxRecDepth 100000
set_option maxHeartbeats 400000
set_option linter.all false
/-! o[k], o.m(e) in a try, the slots told; isinstance(e, (A, B, ..)) of what was caught. -/
namespace L2.XK
open PySem PySem.Spec PyProof.Rows XC Evl
theorem takes0N {X : Cx} : L2N.Takes X (fun _ _ _ _ => False) := fun _ _ x => by
  obtain ⟨_, _, _, _, _, _, _, _, _, _, _, _, _, _, _, _, z⟩ := x
  exact z.elim
def tGetS (C : Addr) (sp : Sp) (E : L2.St → XK) (to ti : TE) : TE := fun σ H Q => to σ H fun x H1 => ti σ H1 fun y H2 => ∃ a dx fs, x = .ref a ∧ H2 a = some (.ins C dx fs) ∧ sp [x, y] H2 Q (E σ)
def tMethT (C : Addr) (m : Str) (sp : Sp) (E : L2.St → XK) (ta : TE) (t : TA) : TE := fun σ H Q => ta σ H fun x H1 => ∃ a dx fs, x = .ref a ∧ H1 a = some (.ins C dx fs) ∧ fs.lookup m = none ∧ t σ H1 fun vs H2 => sp (x :: vs) H2 Q (E σ)
section
variable {X : Cx} {CX : CXT} {k : Nat} {C g : Addr} {fd : FuncData} {sp : Sp} {E : L2.St → XK} {ps : List Str} {n0 n1 : Str}
theorem runAt {pins : List (Addr × Obj)} {σ : L2.St} {H : Hp} {s : Shared} {A : Around} {us : List Value} {ws : List V} {Q : VK} {E1 : XK}
    (F : FnOk X.prog X.w X.K X.mg X.base CX k g fd ps sp) (hb : Binds X.K fd ps []) (hr : Room k A) (I : L2.Inv X pins σ H s) (he : Env0 X.prog X.w X.K X.mg X.base A X.stack s H)
    (hx : PassesAt CX X σ E1) (r : Vals ws us) (q : sp ws H Q E1) : wpAny (model X.prog X.w) A (call (.ref g) us) (EP X pins σ Q) X.xe s := by
  have hl : us.length = ps.length := r.length.symm.trans (F.len _ _ _ _ q)
  have hbb := hb s us I.kIn (by rw [List.append_nil]; exact hl)
  rw [List.append_nil] at hbb
  refine wpAny_call (codeAny_mono (F.run A X.stack s H ⟨us, []⟩ us ws Q E1 hr he hbb r q) fun r s' hq => ?_)
  cases r with
  | error e => exact hx pins H s e s' I hq
  | ok fl =>
    cases fl with
    | ret u => exact I.after hq
    | next => exact hq.elim
    | brk => exact hq.elim
    | cont => exact hq.elim
theorem pe_getOwnS {a b : Expr} {ta tb : TE} {pos : Pos} (hs : PySem.W.findIn X.K (.ref C) "__getitem__" = some (some (.ref g))) (hk : PySem.W.fnIn X.K g = true) (hf : PySem.W.isFn X.K (.ref g) = true) (F : FnOk X.prog X.w X.K X.mg X.base CX k g fd [n0, n1] sp) (hb : Binds X.K fd [n0, n1] [])
    (hr : Room (k + 1) X.A) (hx : ∀ σ, PassesAt CX X σ (E σ)) (h1 : PE X a ta) (h2 : PE X b tb) (hsl : ∀ o i, subscripted b true o i = runValue (.builtin "lifetime.subscript" ⟨[o, i], []⟩) := by intro _ _; with_unfolding_all rfl) : PE X (.Subscript a b pos) (tGetS C sp E ta tb) := by
  refine ⟨fun pins s σ H Q I h => ?_⟩
  refine Subscript_ (binT h1 h2 I h fun v u s2 x y H2 I2 rx ry q => ?_)
  obtain ⟨p, dx, fs, rfl, hp, q⟩ := q
  cases rx
  obtain ⟨od, hin⟩ := ins_fr I2 hp
  obtain ⟨m, fr⟩ := I2.fr
  exact PySem.W.sub_K fr I2.ok.mod.kin hin hs hk hf (runAt F hb hr.in1 I2 I2.env0.in1 (hx σ) (.cons (F := RelV) (a := .ref p) (b := .ref p) rfl (.cons ry .nil)) q) (hsl _ _)
theorem pe_methS1 {o e : Expr} {es : List Expr} {m : Str} {ta : TE} {t : TA} {pos apos : Pos} {pl : Sem Bool} (he : PE X o ta) (c : Cls X.K C) (hm : Meth X.K C m g) (F : FnOk X.prog X.w X.K X.mg X.base CX k g fd ps sp) (hr : Room k X.A) (hb : Binds X.K fd ps [])
    (hx : ∀ σ, PassesAt CX X σ (E σ)) (ha : PA X (e :: es) t)
    (hst : starEach (e :: es) X.env = (false, eval e X.env) :: starEach es X.env := by rfl) (hpl : (backTo pos (starEach es X.env)).any (·.1) = false := by rfl)
    (ht : eval (.Call (.Attribute o m apos) (e :: es) [] pos) X.env = (do
      let ov ← eval o X.env; standAt apos.atName; let (f, first) ← holding [ov] (getMethod ov m pl)
      callWith pos f first (backTo pos (starEach (e :: es) X.env)) (backToKw pos (keywordEach [] X.env))) := by rfl) :
    PE X (.Call (.Attribute o m apos) (e :: es) [] pos) (tMethT C m sp E ta t) := by
  refine ⟨fun pins s σ H Q I h => ?_⟩
  refine PySem.W.methodCall_KW (pl := pl) (thn (he.run pins s σ H _ I h) fun u s1 ⟨x, H1, I1, rx, a, dx, fs, ex, ea, l, q⟩ => ?_) ht
  subst ex
  obtain rfl : u = Value.ref a := rx
  refine getmeth_ok I1 ea c hm l ?_
  refine PySem.W.callWith_K (first := [.ref a]) (h₀ := X.base) I.ok.mod.kin hm.kp (thn (ha.run pos pins s1 σ H1 _ I1 q) fun us s2 ⟨vs, H2, I2, r, q2⟩ => ⟨I2.kIn, ?_⟩) hst hpl
  exact runAt F hb hr I2 I2.env0 (hx σ) (.cons (F := RelV) (a := .ref a) (b := .ref a) rfl r) q2
end
/-- isinstance(e, (A, B, ..)), e the pinned exception -/
def rIsPT (K : PySem.W.Frag) (p : Addr × Obj) : List V → Hp → VK → Prop := fun xs H Q => ∃ (C : Addr) (d : Option Addr) (tp : Addr) (cs : List V) (us : List Value) (b : Bool), xs = [.ref p.1, .ref tp] ∧ H tp = some (.tup cs) ∧ Paired ClsV cs us ∧ PinX p C d ∧
  (∀ z, d = some z → ∃ fs, H z = some (.xd fs)) ∧ XIs K C ∧ PySem.W.kitAny K (.ref C) us = some b ∧ Q (.bl b) H
theorem call_isPT {X : Cx} {p : Addr × Obj} (hp : p ∈ X.pn) : CallR X (.builtin "isinstance") (rIsPT X.K p) := by
  intro pins s σ H xs us Q I r h
  obtain ⟨C, d, tp, cs, ws, b, rfl, hT, k, px, ed, T, e, q⟩ := h
  obtain ⟨u1, u2, rfl, r1, r2⟩ := vals2 r
  cases (show u1 = Value.ref p.1 from r1)
  cases (show u2 = Value.ref tp from r2)
  have g := (I.pin p (List.mem_append_left _ hp)).1
  obtain ⟨_, its, rv, ob, h1, h2, n, h3⟩ := (show ObjOk X.prog X.w H s.heap tp (.tup cs) from I.hok tp _ hT)
  have e3 := ClsV.all k rv
  subst e3
  obtain ⟨oc, od, dt, sl⟩ := ob
  simp only at h2 h3
  subst h2 h3
  cases d with
  | none => exact PySem.W.kia_tup (PySem.W.kitx_exc T.cl T.ga T.gg T.exC T.cC T.hn T.tk T.mo) I.kIn (pin_none px g) h1 e (fun z => nomatch z) fun tk => ⟨.bl b, H, I.tok tk, rfl, q⟩
  | some d =>
    obtain ⟨fs, ez⟩ := ed d rfl
    obtain ⟨mA, hns, hr⟩ := (show ObjOk X.prog X.w H s.heap d (.xd fs) from I.hok d _ ez)
    obtain ⟨od', ho, hl⟩ := lookIn_ns hns
    exact PySem.W.kia_tup (PySem.W.kitx_exc T.cl T.ga T.gg T.exC T.cC T.hn T.tk T.mo) I.kIn (pin_some px g ho) h1 e (fun z => nomatch z) fun tk => ⟨.bl b, H, I.tok tk, rfl, q⟩
/-! two tuples of the same values -/
def samV : V → Bool
  | .non => true
  | .bl _ => true
  | .int _ => true
  | .str _ => true
  | .ref _ => true
  | _ => false
theorem sam_eq {A : Around} {s : Shared} {v : V} {u1 u2 : Value} (h : samV v = true) (r1 : RelV v u1) (r2 : RelV v u2) : SeqAt.EqAt A s u1 u2 true := by
  cases v with
  | non =>
    cases r1
    cases r2
    exact SeqAt.EqAt.same _
  | bl b =>
    cases r1
    cases r2
    exact SeqAt.EqAt.same _
  | int i =>
    obtain ⟨t, rfl⟩ := r1
    obtain ⟨t', rfl⟩ := r2
    have := SeqAt.EqAt.int_int (A := A) (s := s) i t i t'
    rw [beq_self_eq_true] at this
    exact this
  | str x =>
    obtain ⟨t, rfl⟩ := r1
    obtain ⟨t', rfl⟩ := r2
    have := SeqAt.EqAt.str_str (A := A) (s := s) x t x t'
    rw [beq_self_eq_true] at this
    exact this
  | ref a =>
    cases r1
    cases r2
    exact SeqAt.EqAt.same _
  | _ => cases h
def rNeSame : R2 := fun x y H Q => ∃ p q xs, x = .ref p ∧ y = .ref q ∧ H p = some (.tup xs) ∧ H q = some (.tup xs) ∧ xs.all samV = true ∧ Q (.bl false) H
theorem op_neSame {X : Cx} (hu : X.A.units < cLine) : OpR X (compareOp .NotEq) rNeSame := by
  intro pins s σ H x y v u Q I rx ry h
  obtain ⟨p, q, xs, rfl, rfl, hp, hq, hs, k⟩ := h
  cases rx
  cases ry
  obtain ⟨its, rv, ht, _⟩ := I.tuple (st_of hp)
  obtain ⟨its', rv', ht', _⟩ := I.tuple (st_of hq)
  have l1 := rv.length
  have l2 := rv'.length
  have e := SeqAt.RcNeAt.tuples (A := X.A) (e := fun _ => true) ht ht' hu (fun j h1 h2 => by
    have hj : j < xs.length := by
      rw [l1]
      simpa using h1
    obtain ⟨w1, e1, q1⟩ := rv.get (List.getElem?_eq_getElem hj)
    obtain ⟨w2, e2, q2⟩ := rv'.get (List.getElem?_eq_getElem hj)
    have z1 : its.toArray[j] = w1 := by
      have := List.getElem?_eq_some_iff.mp e1
      obtain ⟨h3, h4⟩ := this
      simpa using h4
    have z2 : its'.toArray[j] = w2 := by
      have := List.getElem?_eq_some_iff.mp e2
      obtain ⟨h3, h4⟩ := this
      simpa using h4
    rw [z1, z2]
    exact sam_eq (List.all_eq_true.mp hs _ (List.getElem_mem hj)) q1 q2)
  have b : (!((List.range (min its.toArray.size its'.toArray.size)).all (fun _ => true) && its.toArray.size == its'.toArray.size)) = false := by
    have : its.length = its'.length := by omega
    simp [this]
  rw [b] at e
  exact e X.prog X.w X.xe _ ⟨.bl false, H, I, rfl, k⟩
end L2.XK

set_option Elab.async false
set_option maxRecDepth 100000
set_option maxHeartbeats 400000
set_option linter.all false
/-! Strange values are no names of a book. -/
namespace L2.KB
open PySem PySem.Spec PyProof.Rows XK Evl XC TL
theorem pss_imp {X : Cx} {st : List Stmt} {t t' : TS} (h : PSs X st t) (k : ∀ D σ H, t' D σ H → t D σ H) : PSs X st t' := ⟨fun pins s σ H D I w => h.run pins s σ H D I (k D σ H w)⟩
/-- the suite's reading, p the caught error -/
def tSu (K : PySem.W.Frag) (z : AdrZ) (p : Addr × Obj) : TS := tIfS (tAnd (tB (tCB (rIsP K p) (tCons (tVar 5) (tCons (tC (.ref z.WrongState)) tNil))))
    (tNot (tB (tCB (rIsPT K p) (tCons (tVar 5) (tCons (tTup (tCons (tC (.ref z.WrongValue)) (tCons (tC (.ref z.NoAnswer)) (tCons (tC (.ref z.InvalidIndex)) tNil)))) tNil))))))
  (tAsg (tTup (tCons (tC (.str "unknown")) (tCons (tPFld K p "given" (tVar 5)) tNil))) (gName 4)) tNext
def tsSu (K : PySem.W.Frag) (z : AdrZ) : Addr → Value → Option Addr → TS := fun e cls d D σ H => ∀ oe, L2N.Zn cls d oe → (∃ vs, oe.data = .fields vs) → tSu K z (e, oe) D σ H
/-- a value that is no name -/
def Odd (K : PySem.W.Frag) (H : Hp) (y : V) (d : PyData) : Prop := Da K H y d ∧ samV y = true ∧ ∀ s, d = .str s → nameS s = false
theorem Odd.ex {K : PySem.W.Frag} {H H' : Hp} {y : V} {d : PyData} (h : Odd K H y d) (e : Ex H H') : Odd K H' y d := ⟨h.1.ex e, h.2⟩
theorem Odd.inM {K : PySem.W.Frag} {H : Hp} {y : V} {d : PyData} (h : Odd K H y d) {m : Ms} (hm : Named m) : inM d m = false := by
  cases d with
  | str s =>
    show (m.lookup s).isSome = false
    cases e : m.lookup s with
    | none => rfl
    | some a =>
      have h1 := hm _ (look_mem e)
      have h2 := h.2.2 s rfl
      rw [h2] at h1
      cases h1
  | _ => rfl
def spStrange (K : PySem.W.Frag) (o : KC.AdrO) (z : AdrZ) : Sp := fun vs H Q _ => ∃ (G : List Addr) (x : Addr) (m : Ms) (n : Nat), vs = [.ref x] ∧ BookAt K o z G H x m n ∧ Named m ∧ n + 1 ≤ 1000 ∧ ∀ H', Ex H H' → Q (.bl true) H'
section
variable {P : Program} {w : World} {K : PySem.W.Frag} {mg : Str → Option Value} {base : Heap} {c : KC.AdrC} {b : KC.AdrH} {o : KC.AdrO} {z : AdrZ}
/-- what was caught: the pair is stored -/
theorem suite_run (T : TxtZ K mg c b o z) {D : Ends} {v0 v1 v2 v3 v4 v5 : Option V} {y : V} {H5 : Hp} {dd : Addr} (hdd : H5 dd = some (.xd [(("given" : Str), y)])) (k : ∀ t H6, Ex H5 H6 → H6 t = some (.tup [.str "unknown", y]) → D.nx [v0, v1, v2, v3, some (.ref t), none] H6) :
    wAs K (.ref z.UnknownName) 5 (tsSu K z) (fun _ _ _ _ => False) D (.ref z.UnknownName) (some dd) [v0, v1, v2, v3, v4, v5] H5 := by
  refine ⟨true, T.xU, fun _ a ha oe hzn hf => ?_, fun z => by cases z⟩
  have px : PinX (a, oe) z.UnknownName (some dd) := ⟨hzn.1, hzn.2.1, hf⟩
  have ed : ∀ {H : Hp}, Ex H5 H → ∀ q, some dd = some q → ∃ fs, H q = some (.xd fs) := fun e q hq => by
    cases hq
    exact ⟨_, e _ _ hdd⟩
  refine ⟨_, rfl, z.UnknownName, some dd, .ref z.WrongState, .ref z.WrongState, true, rfl, px, ed (Ex.refl _), T.xiU, .own _, T.kU1, _, rfl, if_y rfl ?_⟩
  refine ⟨_, rfl, by show 3 ≤ sizeLine; decide, fun tp htp => ?_⟩
  have e1 : Ex H5 (upd H5 tp (.tup [.ref z.WrongValue, .ref z.NoAnswer, .ref z.InvalidIndex])) := Ex.new htp
  refine ⟨z.UnknownName, some dd, tp, [.ref z.WrongValue, .ref z.NoAnswer, .ref z.InvalidIndex], [.ref z.WrongValue, .ref z.NoAnswer, .ref z.InvalidIndex], false, rfl, upd_same, .cons (.own _) (.cons (.own _) (.cons (.own _) .nil)), px, ed e1, T.xiU, T.kU2, _, rfl, if_y rfl ?_⟩
  refine ⟨_, rfl, z.UnknownName, dd, _, y, rfl, px, e1 _ _ hdd, rfl, ⟨_, _, _, _, T.cUnknownName.toEC⟩, T.cUnknownName.n0, ?_⟩
  refine ⟨by show 2 ≤ sizeLine; decide, fun t ht => ?_⟩
  exact k t _ (e1.trans (Ex.new ht)) upd_same
theorem ok_strange (T : TxtZ K mg c b o z) : FnOk P w K mg base CX0 7 z.LawStrange z.fdLawStrange ["_law_book"] (spStrange K o z) := by
  have GBookContains : FnOk P w K mg base CX0 1 z.BookContains z.fdBookContains ["self", "x"] (spBkIn K o z) := ok_bkIn T
  have GBookGetitem : FnOk P w K mg base (L2N.CX P w) 3 z.BookGetitem z.fdBookGetitem ["self", "at"] (spGetB K o z) := ok_getB T
  have GBookRemove : FnOk P w K mg base (L2N.CX P w) 5 z.BookRemove z.fdBookRemove ["self", "name"] (spRemove K o z) := ok_remove T
  refine T.fLawStrange.ok scLawStrange (fun vs H Q E h => ?_) (fun cdv A outer s H vs Q E hr h => ?_)
  · obtain ⟨G, x, m, n, rfl, _⟩ := h
    rfl
  · obtain ⟨G, x, m, n, rfl, hb, hnm, hn, k⟩ := h
    refine ⟨_, (pss_cons (ps_set (i := 1) scLawStrange.nd rfl (by first | exact Or.inl rfl | exact Or.inr rfl) (by exact (pe_lst (pa_cons pe_str (pa_cons pe_str (pa_cons pe_str (pa_cons pe_str (pa_cons pe_str (pa_cons pe_str (pa_cons pe_int (pa_cons pe_non (pa_cons pe_bl (pa_cons (pe_tup pa_nil) (pa_cons (pe_tup (pa_cons pe_str pa_nil)) (pa_cons (pe_lst (pa_cons pe_str pa_nil)) (pa_cons (pe_disp (pps_cons pe_str pe_int pps_nil) (by rfl) (by rfl) (fun z => by cases z) (by decide)) pa_nil))))))))))))))))
      (pss_cons (ps_for PassesOwn.never rfl (pi_list (pv 1)) (pg_name (i := 2) scLawStrange.nd rfl (by first | exact Or.inl rfl | exact Or.inr rfl)) (pss_one (ps_for PassesOwn.never rfl (pi_range1 (by rfl) T.brange (pa_cons pe_int pa_nil)) (pg_name (i := 3) scLawStrange.nd rfl (by first | exact Or.inl rfl | exact Or.inr rfl))
        (pss_cons (ps_set (i := 4) scLawStrange.nd rfl (by first | exact Or.inl rfl | exact Or.inr rfl) (by exact pe_non))
        (pss_cons (L2N.ps_try_as (X := (cxOf CX0 P w K mg base NLawStrange "_law_strange" (defScope sLawStrange) z.LawStrange cdv A outer s H E).nox) (i := 5) (c := .ref z.UnknownName) (ts := tsSu K z) (Wout := fun _ _ _ _ => False)
          (tb := fun W => tIfS (tTest (tOp rEq (tVar 3) (tC (.int 0)))) (tAsg (tGetS z.Book (spGetB K o z) (WE W) (tVar 0) (tVar 2)) (gName 4)) (tDrop (tMethT z.Book "remove" (spRemove K o z) (WE W) (tVar 0) (tCons (tVar 2) tNil))))
          rfl rfl scLawStrange.nd rfl rfl ⟨rfl, by decide, .inl T.gUnknownName⟩ takes0N
          (fun W pn xe tk _ => pss_one (ps_if (pt_cmpR op_eq (pv 3) pe_int (nomark _)) (pss_one (ps_set (i := 4) scLawStrange.nd rfl (by first | exact Or.inl rfl | exact Or.inr rfl) (by exact (pe_getOwnS T.hBookGetitem T.fkBookGetitem T.fnBookGetitem GBookGetitem T.bBookGetitem (hr.mono (by decide)) (fun σ => L2N.passAt tk σ) (pv 0) (pv 2)))))
            (pss_one (ps_expr (pe_methS1 (pv 0) T.clBook T.meBookRemove GBookRemove (hr.mono (by decide)) T.bBookRemove (fun σ => L2N.passAt tk σ) (pa_cons (pv 2) pa_nil))))))
          (fun e oe cls d pn hz hf => pss_imp (t := tSu K z (e, oe)) (pss_one (ps_if (PW.pt (pw_and (pt_val (pe_callB (XK.call_isP (p := (e, oe)) List.mem_cons_self) (by rfl) T.bisinstance (by decide +kernel) (pa_cons (pv 5) (pa_cons (pe_glob (v := .ref z.WrongState) rfl T.gWrongState rfl) pa_nil))))
              (pw_and1 (pt_not (pt_val (pe_callB (XK.call_isPT (p := (e, oe)) List.mem_cons_self) (by rfl) T.bisinstance (by decide +kernel) (pa_cons (pv 5) (pa_cons (pe_tup (pa_cons (pe_glob (v := .ref z.WrongValue) rfl T.gWrongValue rfl) (pa_cons (pe_glob (v := .ref z.NoAnswer) rfl T.gNoAnswer rfl) (pa_cons (pe_glob (v := .ref z.InvalidIndex) rfl T.gInvalidIndex rfl) pa_nil)))) pa_nil))))))))
            (pss_one (ps_set (i := 4) scLawStrange.nd rfl (by first | exact Or.inl rfl | exact Or.inr rfl) (by exact (pe_tup (pa_cons pe_str (pa_cons (XK.pe_pfld (p := (e, oe)) List.mem_cons_self (pv 5)) pa_nil)))))) pss_nil)) fun D σ H w => w oe hz hf))
        (pss_one (ps_if (PW.pt (pw_or (pt_cmpR (op_neSame (Nat.lt_of_succ_lt (units1 hr))) (pv 4) (pe_tup (pa_cons pe_str (pa_cons (pv 2) pa_nil))) (nomark _)) (pw_or1 (pt_cmpR (r := XK.rInOwn z.Book (spBkIn K o z) E0) (XK.op_inOwn T.hBookContains T.fnBookContains GBookContains T.bBookContains (hr.mono (by decide)) pass0) (pv 2) (pv 0) (by rfl))))) (pss_one (ps_ret (by exact pe_bl))) pss_nil)))))))
      (pss_one (ps_ret (by exact pe_bl))))), ?_⟩
    obtain ⟨dx, pg, hx, _⟩ := hb.ob
    dsimp only [tSeq, tAsg, tLst]
    refine ⟨by show 0 ≤ sizeLine; decide, fun t0 ht0 => ?_⟩
    refine ⟨by show 1 ≤ sizeLine; decide, fun t1 ht1 => ?_⟩
    refine ⟨by show 1 ≤ sizeLine; decide, fun l1 hl1 => ?_⟩
    intro d1 hd1
    refine ⟨upd_same, [(Sum.inr ("a" : Str), .int 1)], rfl, by decide, ?_⟩
    rw [upd_upd]
    refine ⟨by show 13 ≤ sizeLine; decide, fun l hl => ?_⟩
    have eA := (((Ex.new (o := .tup []) ht0).trans (Ex.new (o := .tup [.str "a"]) ht1)).trans (Ex.new (o := .lst [.str "a"]) hl1)).trans (Ex.new (o := .dK (mergeK [] [(Sum.inr ("a" : Str), .int 1)])) hd1)
    have a0 := (((Ex.new (o := .tup [.str "a"]) ht1).trans (Ex.new (o := .lst [.str "a"]) hl1)).trans (Ex.new (o := .dK (mergeK [] [(Sum.inr ("a" : Str), .int 1)])) hd1)) t0 _ upd_same
    have a1 := ((Ex.new (o := .lst [.str "a"]) hl1).trans (Ex.new (o := .dK (mergeK [] [(Sum.inr ("a" : Str), .int 1)])) hd1)) t1 _ upd_same
    have a2 := (Ex.new (o := .dK (mergeK [] [(Sum.inr ("a" : Str), .int 1)])) hd1) l1 _ upd_same
    obtain ⟨H4, hH4⟩ : ∃ H4, H4 = upd (upd (upd (upd H t0 (.tup [])) t1 (.tup [.str "a"])) l1 (.lst [.str "a"])) d1 (.dK (mergeK [] [(Sum.inr ("a" : Str), .int 1)])) := ⟨_, rfl⟩
    have a3 : H4 d1 = some (.dK (mergeK [] [(Sum.inr ("a" : Str), .int 1)])) := by rw [hH4]; exact upd_same
    rw [← hH4] at eA a0 a1 a2 hl ⊢
    obtain ⟨vals, hvals⟩ : ∃ vals : List V, vals = [.str "", .str "zzzzzzzzz", .str "A", .str "a1", .str " a", .str "a ", .int 3, .non, .bl true, .ref t0, .ref t1, .ref l1, .ref d1] := ⟨_, rfl⟩
    have hlist : upd H4 l (.lst vals) l = some (.lst vals) := upd_same
    have e5 : Ex H4 (upd H4 l (.lst vals)) := Ex.new hl
    have hodd : ∀ y ∈ vals, ∃ dt, Odd K (upd H4 l (.lst vals)) y dt := fun y hy => by
      have oddS : ∀ s : Str, s.length ≤ 100000 → nameS s = false → ∃ dt, Odd K (upd H4 l (.lst vals)) (.str s) dt := fun s h1 h2 => ⟨.str s, .str s h1, rfl, fun s' e => by cases e; exact h2⟩
      rw [hvals] at hy
      simp only [List.mem_cons, List.not_mem_nil, or_false] at hy
      rcases hy with rfl | rfl | rfl | rfl | rfl | rfl | rfl | rfl | rfl | rfl | rfl | rfl | rfl
      · exact oddS _ (by decide +kernel) (by decide +kernel)
      · exact oddS _ (by decide +kernel) (by decide +kernel)
      · exact oddS _ (by decide +kernel) (by decide +kernel)
      · exact oddS _ (by decide +kernel) (by decide +kernel)
      · exact oddS _ (by decide +kernel) (by decide +kernel)
      · exact oddS _ (by decide +kernel) (by decide +kernel)
      · exact ⟨.int 3, .int 3, rfl, fun s' e => by cases e⟩
      · exact ⟨.none, .non, rfl, fun s' e => by cases e⟩
      · exact ⟨.bool true, .bl true, rfl, fun s' e => by cases e⟩
      · exact ⟨.tuple [], .tup (st_of (e5 _ _ a0)) .nil, rfl, fun s' e => by cases e⟩
      · exact ⟨.tuple [.str "a"], .tup (st_of (e5 _ _ a1)) (.cons (.str _ (by decide +kernel)) .nil), rfl, fun s' e => by cases e⟩
      · exact ⟨.list [.str "a"], .lst (sq_of (e5 _ _ a2)) (.cons (.str _ (by decide +kernel)) .nil), rfl, fun s' e => by cases e⟩
      · exact ⟨.dict [], .dic (e5 _ _ a3), rfl, fun s' e => by cases e⟩
    have goal5 : upd H4 l (.lst [.str "", .str "zzzzzzzzz", .str "A", .str "a1", .str " a", .str "a ", .int 3, .non, .bl true, .ref t0, .ref t1, .ref l1, .ref d1]) = upd H4 l (.lst vals) := by rw [hvals]
    have e15 := eA.trans e5
    have hx5 := e15 _ _ hx
    have hb5 := hb.ex e15
    dsimp only [gName]
    show tFor _ _ _ _ _ (upd H4 l (.lst [.str "", .str "zzzzzzzzz", .str "A", .str "a1", .str " a", .str "a ", .int 3, .non, .bl true, .ref t0, .ref t1, .ref l1, .ref d1]))
    rw [goal5]
    generalize hH5 : upd H4 l (.lst vals) = H5 at hlist hodd e15 hx5 hb5
    refine s_forLn (xs := vals) (ev_var rfl) (sq_of hlist) (fun i σ H' => Ex H5 H' ∧ ∃ v2 v3 v4 v5, σ = [some (.ref x), some (.ref l), v2, v3, v4, v5]) (fun H1 e1 => ⟨e1, _, _, _, _, rfl⟩) (fun i σ H' _ h => sq_of (h.1 _ _ hlist)) (fun i y σ H6 hy ⟨e6, v2, v3, v4, v5, hσ⟩ => ?_) (fun σ H6 ⟨e6, v2, v3, v4, v5, hσ⟩ => ?_)
    · subst hσ
      obtain ⟨dt, hodd5⟩ := hodd y (List.mem_of_getElem? hy)
      have hin := hodd5.inM hnm
      dsimp only [List.set]
      refine s_forR1 (n := 2) (ea_cons ev_c ea_nil) ⟨by decide, by decide⟩ (fun i σ H' => Ex H5 H' ∧ ∃ v3 v4 v5, σ = [some (.ref x), some (.ref l), some y, v3, v4, v5]) (fun H1 e1 => ⟨e6.trans e1, _, _, _, rfl⟩) (fun i σ H7 hi ⟨e7, v3, v4, v5, hσ⟩ => ?_) (fun σ H7 ⟨e7, v3, v4, v5, hσ⟩ => ?_)
      · subst hσ
        dsimp only [tSeq, List.set, tAsg, gName]
        have tail : ∀ (t : Addr) (H9 : Hp) (v3 v5 : Option V), Ex H5 H9 → H9 t = some (.tup [.str "unknown", y]) → ∀ N : Ends, (∀ v4 v5' H', Ex H5 H' → N.nx [some (.ref x), some (.ref l), some y, v3, v4, v5'] H') →
            tIfS (tOr (tTest (tOp rNeSame (tVar 4) (tTup (tCons (tC (.str "unknown")) (tCons (tVar 2) tNil))))) (tTest (tOp (rInOwn z.Book (spBkIn K o z) E0) (tVar 2) (tVar 0)))) (tRet (tC (.bl false))) tNext N [some (.ref x), some (.ref l), some y, v3, some (.ref t), v5] H9 := fun t H9 v3 v5 e9 ht N hN => by
          refine ⟨_, rfl, _, rfl, by show 2 ≤ sizeLine; decide, fun t2 ht2 => ?_⟩
          have e10 : Ex H9 (upd H9 t2 (.tup [.str "unknown", y])) := Ex.new ht2
          refine ⟨t, t2, [.str "unknown", y], rfl, rfl, e10 _ _ ht, upd_same, (by show (samV (.str "unknown") && (samV y && true)) = true; rw [hodd5.2.1]; rfl), _, rfl, if_n rfl ?_⟩
          refine ⟨_, rfl, _, rfl, x, dx, _, rfl, (e9.trans e10) _ _ hx5, G, x, y, dt, m, n, rfl, hb5.ex (e9.trans e10), hodd5.1.ex (e9.trans e10), fun H11 e11 => ⟨_, rfl, _, rfl, ?_⟩⟩
          rw [hin]
          exact if_n rfl (hN _ _ _ ((e9.trans e10).trans e11))
        refine ⟨_, rfl, rfl, _, rfl, if_b (fun hw => ?_) (fun hw => ?_)⟩
        · refine ⟨_, rfl, _, rfl, x, dx, _, rfl, e7 _ _ hx5, G, x, y, dt, m, n, rfl, hb5.ex e7, hodd5.1.ex e7, fun s' a es ha => ?_, fun _ dd H8 hdd e8 hdx => ?_⟩
          · subst es
            have : inM (.str s') m = true := by show (m.lookup s').isSome = true; rw [ha]; rfl
            rw [this] at hin
            cases hin
          · exact suite_run T hdx fun t H9 e9 ht => tail t H9 _ _ ((e7.trans e8).trans e9) ht _ fun v4 v5' H' e' => ⟨e', _, _, _, rfl⟩
        · refine ⟨_, rfl, x, dx, _, rfl, e7 _ _ hx5, rfl, _, rfl, G, x, y, dt, m, n, rfl, hb5.ex e7, hodd5.1.ex e7, hn, fun s' es ht => ?_, fun _ dd H8 hdd e8 hdx => ?_⟩
          · rw [hin] at ht
            cases ht
          · exact suite_run T hdx fun t H9 e9 ht => tail t H9 _ _ ((e7.trans e8).trans e9) ht _ fun v4 v5' H' e' => ⟨e', _, _, _, rfl⟩
      · subst hσ
        exact ⟨e7, _, _, _, _, rfl⟩
    · subst hσ
      exact k H6 (e15.trans e6)
end
end L2.KB

set_option Elab.async false
set_option maxRecDepth 100000
set_option maxHeartbeats 400000
set_option linter.all false
/-! x.m(k = v, ..): a method of an own instance called by keywords alone; promises that never raise. -/
namespace L2.XK
open PySem PySem.Spec PyProof.Rows XC Evl
def tMethK (C : Addr) (m : Str) (n : Nat) (sp : Sp) (gV : List V → List V → List V) (E : XK) (ta : TE) (tk : TA) : TE := fun σ H Q => ta σ H fun x H1 => ∃ a dx fs, x = .ref a ∧ H1 a = some (.ins C dx fs) ∧ fs.lookup m = none ∧ tk σ H1 fun zs H2 => zs.length = n ∧ sp (gV [x] zs) H2 Q E
theorem pe_methK {X : Cx} {CX : CXT} {k : Nat} {f C : Addr} {fd : FuncData} {ps ks : List Str} {sp : Sp} {E : XK} {m : Str} {pos apos : Pos} {o : PySem.Expr} {kws : List Keyword} {ta : TE} {tk : TA} {g : List Value → List Value → List Value} {gV : List V → List V → List V} {pl : Sem Bool}
    (he : PE X o ta) (c : Cls X.K C) (hm : Meth X.K C m f) (F : FnOk X.prog X.w X.K X.mg X.base CX k f fd ps sp) (hr : Room k X.A) (hb : KBn X.K fd ps 1 ks g gV) (hx : Passes CX X E) (hkw : PK X kws tk)
    (hall : (backToKw pos (keywordEach kws X.env)).all (·.1.isSome) = true := by rfl) (hks : (backToKw pos (keywordEach kws X.env)).filterMap (·.1) = ks := by rfl)
    (hpl : ((backTo pos (starEach [] X.env)).any (·.1) || (backToKw pos (keywordEach kws X.env)).any (·.1.isNone)) = false := by rfl)
    (ht : eval (.Call (.Attribute o m apos) [] kws pos) X.env = (do
      let ov ← eval o X.env
      standAt apos.atName
      let (f, first) ← holding [ov] (getMethod ov m pl)
      callWith pos f first (backTo pos (starEach [] X.env)) (backToKw pos (keywordEach kws X.env))) := by rfl) :
    PE X (.Call (.Attribute o m apos) [] kws pos) (tMethK C m ks.length sp gV E ta tk) := by
  refine ⟨fun pins s σ H Q I h => ?_⟩
  refine PySem.W.methodCall_KW (thn (he.run pins s σ H _ I h) fun u s1 hh => ?_) ht
  obtain ⟨x, H1, I1, rx, a, dx, fs, rfl, ea, l, q⟩ := hh
  cases rx
  refine getmeth_ok I1 ea c hm l ?_
  refine PySem.W.callWith_KW0 I.ok.mod.kin hm.kp hall ?_ hpl
  refine thn (hkw.run pos pins s1 σ H1 _ I1 q) fun ws s2 hh => ?_
  obtain ⟨zs, H2, I2, rz, l2, q2⟩ := hh
  refine ⟨I2.kIn, ?_⟩
  rw [hks]
  exact run_fnN F hr hb hx I2 (.cons (F := RelV) (a := .ref a) (b := .ref a) rfl .nil) rz rfl l2 q2
end L2.XK

set_option Elab.async false
set_option maxRecDepth 100000
set_option maxHeartbeats 400000
set_option linter.all false
/-! Houses of two words; what stays while the law goes on. -/
namespace L2.KB
open PySem PySem.Spec PyProof.Rows XK Evl XC TL
theorem bind3 {K : PySem.W.Frag} {dvs : List V} {f : Addr} {fd : FuncData} (F : FunD K "__init__" "House.__init__" (defArgs KC.sHouseInit) (defBody KC.sHouseInit) (defScope KC.sHouseInit) dvs [] f fd) (h2 : dvs.length = 2) :
    ∃ ds, Vals (dvs.drop 0) ds ∧ Binds K fd ["self", "lines", "stands", "keys", "rows"] ds := by
  refine F.binds1 3 0 (by intro z; rw [z] at h2; cases h2) (by rw [h2]; rfl) fun T kV doc pm an cdv ct us its hu hi => ?_
  rw [h2] at hi
  match us, hu, its, hi with
  | [_, _, _], _, [_, _], _ => exact ⟨_, rfl, rfl⟩
/-- put(house=.., name=..) -/
def gPut : List Value → List Value → List Value
  | [u], [h, s] => [u, s, h]
  | _, _ => []
def gPutV : List V → List V → List V
  | [u], [h, s] => [u, s, h]
  | _, _ => []
theorem kbn_put {K : PySem.W.Frag} {f : Addr} {fd : FuncData} (F : Fun K "put" "Book.put" sBookPut f fd) : KBn K fd ["self", "name", "house"] 1 ["house", "name"] gPut gPutV := by
  obtain ⟨oc, od, kV, doc, pm, an, cdv, ct, osl, rfl, lk, hcd⟩ := F.ex
  refine ⟨fun s us ws hin hu hw => ?_, fun {vs us zs ws} hv hz => ?_⟩
  · match us, hu, ws, hw with
    | [u], _, [h, n], _ => exact BindsTo.of_looks fun M => PySem.W.Looks.of_pure rfl
  · cases hv with
    | nil => exact .nil
    | cons a t => cases t with
      | cons _ _ => exact .nil
      | nil => cases hz with
        | nil => exact .nil
        | cons b1 t => cases t with
          | nil => exact .nil
          | cons b2 t => cases t with
            | nil => exact .cons a (.cons b2 (.cons b1 .nil))
            | cons _ _ => exact .nil
/-! a house of two words stands -/
def twoD (ws : List Str) : PyData := .tuple (ws.map fun w => .tuple [.str w, .str "hum"])
theorem words2 {ws : List Str} (h : WordsOk ws 2) : ∃ u v, ws = [u, v] ∧ u ≠ v ∧ KC.wordS u = true ∧ KC.wordS v = true := by
  obtain ⟨h1, h2, h3⟩ := h
  match ws, h1, h2, h3 with
  | [u, v], _, h2, h3 => exact ⟨u, v, rfl, fun e => by rw [e] at h2; simp at h2, h3 u (by simp), h3 v (by simp)⟩
theorem hum_ok : KC.wordD (.str "hum") = true ∧ KC.heardD (.str "hum") = false := by decide +kernel
theorem two_ok {b : KC.AdrH} {l : V} {ws : List Str} (h : WordsOk ws 2) : KC.houseFault b l (.int 1) (twoD ws) (.tuple []) (.tuple []) = none := by
  obtain ⟨u, v, rfl, ne, hu, hv⟩ := words2 h
  have e1 : KC.standsFault (twoD [u, v]) = none := by
    unfold KC.standsFault twoD
    dsimp only [List.map]
    rw [if_pos (by constructor <;> simp)]
    unfold KC.wrongStand
    rw [first_none]
    · rfl
    intro i hi
    have i2 : i < 2 := hi
    have su : ∀ w, KC.wordS w = true → KC.standD (.tuple [.str w, .str "hum"]) = true := fun w hw => by
      unfold KC.standD
      dsimp only
      rw [hum_ok.1, hum_ok.2]
      show (KC.wordS w && _) = true
      rw [hw]
      rfl
    match i, i2 with
    | 0, _ =>
      show (!KC.standD (.tuple [.str u, .str "hum"]) || KC.inS u []) = false
      rw [su u hu, inS_false (by simp)]
      rfl
    | 1, _ =>
      show (!KC.standD (.tuple [.str v, .str "hum"]) || KC.inS v [u]) = false
      rw [su v hv, inS_false (by simp [Ne.symm ne])]
      rfl
  unfold KC.houseFault
  rw [e1]
  rfl
theorem make2 {K : PySem.W.Frag} {b : KC.AdrH} {C : Addr} {H : Hp} {t e1 e2 x dx : Addr} {ws : List Str} {W : VK} {E : XK} (hws : WordsOk ws 2) (ht : Da K H (.ref t) (twoD ws)) (h1 : KC.WT K e1 []) (h2 : KC.WT K e2 []) (nx : H x = none) (ndx : H dx = none) (hne : dx ≠ x) (k : ∀ H', Ex H H' → HsW C H' x → W .non H') :
    KC.spInit K b C (.ref x :: ([.int 1, .ref t] ++ [.ref e1, .ref e2])) (upd (upd H dx (.own x)) x (.ins C dx [])) W E := by
  obtain ⟨x', dx', l, st, ky, rw1, dl, ds, dk, dr, e, hx, g1, g2, g3, g4, m⟩ := KC.make_house (b := b) (C := C) (E := E) (Q := fun y H2 => y = .ref x → W .non H2) (.int 1) ht (.tup (h1 H) .nil) (.tup (h2 H) .nil) (by
    unfold KC.Made
    rw [two_ok hws]
    exact fun x2 dx H' nx e h ez => by
      cases ez
      exact k H' e ⟨dx, _, _, _, _, _, h⟩) x dx nx ndx hne
  refine ⟨x', dx', l, st, ky, rw1, dl, ds, dk, dr, e, hx, g1, g2, g3, g4, ?_⟩
  cases hf : KC.houseFault b l dl ds dk dr with
  | some q =>
    obtain ⟨c, f, v⟩ := q
    rw [hf] at m
    exact m
  | none =>
    rw [hf] at m
    exact fun H' bt hx => (m H' bt hx).2 rfl
/-! what stays -/
section
variable {K : PySem.W.Frag} {o : KC.AdrO} {z : AdrZ} {G : List Addr} {H H' : Hp} {x : Addr} {m : Ms} {n : Nat}
/-- a new thing, to be hidden too -/
theorem BookAt.add {a : Addr} {u : HO} (h : BookAt K o z G H x m n) (ha : H a = none) : BookAt K o z (a :: G) (upd H a u) x m n := by
  obtain ⟨dx, p, h1, h2⟩ := h.ob
  have e : Ex H (upd H a u) := Ex.new ha
  refine ⟨List.mem_cons_of_mem _ h.mem, fun c hc => ?_, ⟨dx, p, e _ _ h1, h2.ex fun c v hv => ?_⟩, h.nd, h.sz, h.nn⟩
  · by_cases q : c = a
    · rw [q, upd_same]; rfl
    · rw [upd_ne q]
      rcases List.mem_cons.mp hc with r | r
      · exact absurd r q
      · exact h.vis c r
  · obtain ⟨c1, c2⟩ := hd_some hv
    have q : c ≠ a := fun q => by rw [q, ha] at c2; cases c2
    rw [hd_out (fun r => by
      rcases List.mem_cons.mp r with r | r
      · exact q r
      · exact c1 r), upd_ne q]
    exact c2
theorem But2.hd {p q : Addr} (k : But2 p q H H') (hp : p ∈ G) (hq : q ∈ G) : Ex (hd G H) (hd G H') := fun a u h => by
  obtain ⟨h1, h2⟩ := hd_some h
  rw [hd_out h1]
  exact k a u (fun z => h1 (z ▸ hp)) (fun z => h1 (z ▸ hq)) h2
/-- what is drawn changes no book -/
theorem BookAt.but2 {p q : Addr} (h : BookAt K o z G H x m n) (k : But2 p q H H') (hp : p ∈ G) (hq : q ∈ G) (xp : x ≠ p) (xq : x ≠ q) (sp : (H' p).isSome = true) (sq : (H' q).isSome = true) : BookAt K o z G H' x m n := by
  obtain ⟨dx, pg, h1, h2⟩ := h.ob
  refine ⟨h.mem, fun a ha => ?_, ⟨dx, pg, k _ _ xp xq h1, h2.ex (k.hd hp hq)⟩, h.nd, h.sz, h.nn⟩
  by_cases r : a = p
  · rw [r]; exact sp
  by_cases r2 : a = q
  · rw [r2]; exact sq
  obtain ⟨u, e⟩ := Option.isSome_iff_exists.mp (h.vis a ha)
  rw [k a u r r2 e]
  rfl
theorem PurseAt.but {p q : Addr} {n : Int} (h : PurseAt p q n H) (k : But x H H') (xp : p ≠ x) (xq : q ≠ x) : PurseAt p q n H' := by
  obtain ⟨y, zs, h1, h2, h3⟩ := h
  exact ⟨y, zs, k _ _ xp h1, k _ _ xq h2, h3⟩
theorem PurseAt.some {p q : Addr} {n : Int} (h : PurseAt p q n H) : (H p).isSome = true ∧ (H q).isSome = true := by
  obtain ⟨y, zs, h1, h2, h3⟩ := h
  rw [h1, h2]
  exact ⟨rfl, rfl⟩
theorem HsW.hd {C : Addr} (h : HsW C H x) (n : x ∉ G) : HsW C (hd G H) x := by
  obtain ⟨dx, l, st, ky, rw1, t, h⟩ := h
  exact ⟨dx, l, st, ky, rw1, t, (hd_out n).trans h⟩
theorem putM_named {s : Str} {a : Addr} (h : Named m) (hs : nameS s = true) : Named (putM m s a) := fun q hq => by
  have e : q.1 ∈ (putM m s a).map (·.1) := List.mem_map.mpr ⟨q, hq, rfl⟩
  rw [putM_fst] at e
  split at e
  · obtain ⟨p, hp, e⟩ := List.mem_map.mp e
    rw [← e]
    exact h p hp
  · rcases List.mem_append.mp e with e | e
    · obtain ⟨p, hp, e⟩ := List.mem_map.mp e
      rw [← e]
      exact h p hp
    · rw [List.mem_singleton.mp e]
      exact hs
theorem dropM_named {s : Str} (h : Named m) : Named (dropM m s) := fun q hq => h q (dropM_mem hq)
/-- the law's state: purse, book, what is known -/
structure St57 (K : PySem.W.Frag) (o : KC.AdrO) (z : AdrZ) (G : List Addr) (p q l x kn : Addr) (ws : List Str) (N : Int) (m mk : Ms) (n : Nat) (H : Hp) : Prop where
  pu : PurseAt p q N H
  bk : BookAt K o z G H x m n
  pG : p ∈ G
  qG : q ∈ G
  kG : kn ∈ G
  kno : H kn = some (.dK (kvV mk))
  mn : H l = some (.lst (ws.map V.str))
  nm : Named m
  xp : x ≠ p
  xq : x ≠ q
  xk : x ≠ kn
  xl : x ≠ l
  kp : kn ≠ p
  kq : kn ≠ q
  kl : kn ≠ l
  lp : l ≠ p
  lq : l ≠ q
variable {p q l kn : Addr} {ws : List Str} {N : Int} {mk : Ms}
theorem St57.ex (h : St57 K o z G p q l x kn ws N m mk n H) (e : Ex H H') : St57 K o z G p q l x kn ws N m mk n H' :=
  ⟨h.pu.ex e, h.bk.ex e, h.pG, h.qG, h.kG, e _ _ h.kno, e _ _ h.mn, h.nm, h.xp, h.xq, h.xk, h.xl, h.kp, h.kq, h.kl, h.lp, h.lq⟩
/-- after drawing -/
theorem St57.drawn {N' : Int} (h : St57 K o z G p q l x kn ws N m mk n H) (k : But2 p q H H') (hp : PurseAt p q N' H') : St57 K o z G p q l x kn ws N' m mk n H' :=
  ⟨hp, h.bk.but2 k h.pG h.qG h.xp h.xq hp.some.1 hp.some.2, h.pG, h.qG, h.kG, k _ _ h.kp h.kq h.kno, k _ _ h.lp h.lq h.mn, h.nm, h.xp, h.xq, h.xk, h.xl, h.kp, h.kq, h.kl, h.lp, h.lq⟩
/-- the book has turned -/
theorem St57.book {m' : Ms} {n' : Nat} (h : St57 K o z G p q l x kn ws N m mk n H) (k : But x H H') (b : BookAt K o z G H' x m' n') (nm : Named m') : St57 K o z G p q l x kn ws N m' mk n' H' :=
  ⟨h.pu.but k (Ne.symm h.xp) (Ne.symm h.xq), b, h.pG, h.qG, h.kG, k _ _ (Ne.symm h.xk) h.kno, k _ _ (Ne.symm h.xl) h.mn, nm, h.xp, h.xq, h.xk, h.xl, h.kp, h.kq, h.kl, h.lp, h.lq⟩
/-- what is known is written -/
theorem St57.known {mk' : Ms} (h : St57 K o z G p q l x kn ws N m mk n H) : St57 K o z G p q l x kn ws N m mk' n (upd H kn (.dK (kvV mk'))) :=
  ⟨h.pu.but But.up (Ne.symm h.kp) (Ne.symm h.kq), h.bk.but But.up h.kG h.xk (by rw [upd_same]; rfl), h.pG, h.qG, h.kG, upd_same, But.up _ _ (Ne.symm h.kl) h.mn, h.nm, h.xp, h.xq, h.xk, h.xl, h.kp, h.kq, h.kl, h.lp, h.lq⟩
theorem fr_ne {u v : Addr} {H : Hp} (h1 : H u = none) (h2 : (H v).isSome = true) : u ≠ v := fun e => by
  rw [e] at h1
  rw [h1] at h2
  cases h2
/-- what is known is a new dict -/
theorem St57.anew {mk' : Ms} {k2 : Addr} (h : St57 K o z G p q l x kn ws N m mk n H) (hk : H k2 = none) : St57 K o z (k2 :: G) p q l x k2 ws N m mk' n (upd H k2 (.dK (kvV mk'))) := by
  obtain ⟨dx, pg, hx, _⟩ := h.bk.ob
  have hs := h.pu.some
  have e : Ex H (upd H k2 (.dK (kvV mk'))) := Ex.new hk
  exact ⟨h.pu.ex e, h.bk.add hk, List.mem_cons_of_mem _ h.pG, List.mem_cons_of_mem _ h.qG, List.mem_cons_self, upd_same, e _ _ h.mn, h.nm, h.xp, h.xq, Ne.symm (fr_ne hk (by rw [hx]; rfl)), h.xl, fr_ne hk hs.1, fr_ne hk hs.2, fr_ne hk (by rw [h.mn]; rfl), h.lp, h.lq⟩
end
/-! a dict of pairs -/
theorem merge_kv : ∀ (l acc : Ms), ((acc ++ l).map (·.1)).Nodup → mergeK (kvV acc) (kvV l) = kvV (acc ++ l)
  | [], acc, _ => by rw [List.append_nil]; rfl
  | q :: l, acc, h => by
    have e : acc ++ q :: l = (acc ++ [q]) ++ l := by rw [List.append_assoc]; rfl
    rw [e] at h ⊢
    rw [← merge_kv l (acc ++ [q]) h]
    have n : q.1 ∉ acc.map (·.1) := by
      rw [List.map_append, List.map_append, List.nodup_append] at h
      have h1 := h.1
      rw [List.nodup_append] at h1
      exact fun hq => h1.2.2 _ hq _ (by simp) rfl
    show mergeK (putK (kvV acc) (Sum.inr q.1) (.ref q.2)) (kvV l) = _
    rw [putK_kv, putM_new n]
theorem merge_nil {l : Ms} (h : (l.map (·.1)).Nodup) : mergeK [] (kvV l) = kvV l := merge_kv l [] h
theorem shapedS {s : Str} (h : nameS s = true) : SeqAt.shaped (.str s) = true := by
  obtain ⟨h1, _⟩ := shapedN [s] (fun x hx => by rw [List.mem_singleton.mp hx]; exact h)
  unfold SeqAt.shaped
  simp only [List.map_cons, List.map_nil, PyData.canLayAll0, Bool.and_true] at h1
  rw [h1]
  rfl
theorem eqvS {a b : Str} : PyData.eqv (.str a) (.str b) = decide (a = b) := by
  by_cases e : a = b
  · subst e
    rw [decide_eq_true rfl]
    simp [PyData.eqv]
  · rw [decide_eq_false e]
    simp [PyData.eqv, e]
theorem seq_by {t u : TS} {D : Ends} {σ : L2.St} {H : Hp} (W : L2.St → Hp → Prop) (h2 : ∀ σ' H', W σ' H' → u D σ' H') (h1 : ∀ N : L2.St → Hp → Prop, (∀ σ' H', W σ' H' → N σ' H') → t { D with nx := N } σ H) : tSeq t u D σ H := h1 _ h2
theorem da_pairs {K : PySem.W.Frag} {H : Hp} : ∀ {ps : List Addr} {ws : List Str}, Paired (fun (p : Addr) (w : Str) => H p = some (.tup [.str w, .str "hum"])) ps ws → (∀ w ∈ ws, KC.wordS w = true) → DaAll K H (ps.map V.ref) (ws.map fun w => .tuple [.str w, .str "hum"])
  | [], [], _, _ => .nil
  | p :: ps, w :: ws, h, hw => by
    cases h with
    | cons h1 h2 =>
      refine .cons (.tup (st_of h1) (.cons (.str w ?_) (.cons (.str _ (by decide +kernel)) .nil))) (da_pairs h2 fun x hx => hw x (List.mem_cons_of_mem _ hx))
      have := name_len (word_name (hw w List.mem_cons_self))
      omega
  | [], _ :: _, h, _ => by cases h
  | _ :: _, [], h, _ => by cases h
theorem da_two {K : PySem.W.Frag} {H : Hp} {t : Addr} {ps : List Addr} {ws : List Str} (h : H t = some (.tup (ps.map V.ref))) (hp : Paired (fun (p : Addr) (w : Str) => H p = some (.tup [.str w, .str "hum"])) ps ws) (hw : ∀ w ∈ ws, KC.wordS w = true) : Da K H (.ref t) (twoD ws) :=
  .tup (st_of h) (da_pairs hp hw)
theorem look_put {m : Ms} {s : Str} {a : Addr} (nd : (m.map (·.1)).Nodup) : (putM m s a).lookup s = some a := by
  have hm : (s, a) ∈ putM m s a := by
    unfold putM
    split
    · rename_i h
      obtain ⟨p, hp, e⟩ := List.any_eq_true.mp h
      exact List.mem_map.mpr ⟨p, hp, by rw [if_pos (of_decide_eq_true e), of_decide_eq_true e]⟩
    · exact List.mem_append_right _ (List.mem_singleton.mpr rfl)
  obtain ⟨j, hj⟩ := List.mem_iff_getElem?.mp hm
  exact look_at (q := (s, a)) (putM_nd nd) hj
/-- a book just made -/
theorem book_new {K : PySem.W.Frag} {o : KC.AdrO} {z : AdrZ} {H H' : Hp} {x dx pg : Addr} (hx : H' x = some (.ins z.Book dx (bkF pg))) (h : ∀ G : List Addr, (∀ a ∈ G, (upd (upd H dx (.own x)) x (.ins z.Book dx []) a).isSome = true) → PageAt K z.Page o.House (hd G H') pg [] 0) : BookAt K o z [x] H' x [] 0 := by
  refine ⟨by simp, fun a ha => ?_, ⟨dx, pg, hx, h _ fun a ha => ?_⟩, by simp, by simp, by decide⟩
  · rw [List.mem_singleton.mp ha, hx]; rfl
  · rw [List.mem_singleton.mp ha, upd_same]; rfl
end L2.KB

set_option Elab.async false
set_option maxRecDepth 100000
set_option maxHeartbeats 1000000
set_option linter.all false
/-! The law. -/
namespace L2.KB
open PySem PySem.Spec PyProof.Rows XK Evl XC TL
def spLaw (K : PySem.W.Frag) : Sp := fun vs H Q _ => ∃ (a : Addr) (ns : List Int), vs = [.ref a] ∧ SqL K H a (ns.map V.int) ∧ ns.length ≤ 63 ∧ ∀ H', Q (.bl true) H'
section
variable {P : Program} {w : World} {K : PySem.W.Frag} {mg : Str → Option Value} {base : Heap} {c : KC.AdrC} {b : KC.AdrH} {o : KC.AdrO} {z : AdrZ}
theorem ok_law (T : TxtZ K mg c b o z) : FnOk P w K mg base CX0 9 z.Law z.fdLaw ["_law_script"] (spLaw K) := by
  have GInit : FnOk P w K mg base (L2N.CX P w) 7 o.Init o.fdInit ["self", "lines", "stands", "keys", "rows"] (KC.spInit K b o.House) := KC.ok_init T.toTxtO
  obtain ⟨ds3, r3, b3⟩ := bind3 T.init rfl
  have kbBookPut := kbn_put T.fBookPut
  have GLawPurse : FnOk P w K mg base CX0 1 z.LawPurse z.fdLawPurse ["_law_script"] (spPurse K) := ok_purse T
  have GLawDraw : FnOk P w K mg base CX0 1 z.LawDraw z.fdLawDraw ["_law_purse_here", "_law_many"] spDraw := ok_draw T
  have GLawPick : FnOk P w K mg base CX0 2 z.LawPick z.fdLawPick ["_law_purse_here", "_law_menu"] spPick := ok_pick T
  have GLawCalled : FnOk P w K mg base CX0 2 z.LawCalled z.fdLawCalled ["_law_purse_here", "_law_many"] spCalled := ok_called T
  have GLawKept : FnOk P w K mg base CX0 5 z.LawKept z.fdLawKept ["_law_book", "_law_known", "_law_changes"] (spKept K o z) := ok_kept T
  have GLawStrange : FnOk P w K mg base CX0 7 z.LawStrange z.fdLawStrange ["_law_book"] (spStrange K o z) := ok_strange T
  have GBookInit : FnOk P w K mg base CX0 3 z.BookInit z.fdBookInit ["self"] (spBookI K o z) := ok_bookI T
  have GBookPut : FnOk P w K mg base CX0 5 z.BookPut z.fdBookPut ["self", "name", "house"] (spPut K o z) := ok_put T
  have GBookSetitem : FnOk P w K mg base CX0 6 z.BookSetitem z.fdBookSetitem ["self", "at", "worth"] (spPut K o z) := ok_setitem T
  have GBookRemove : FnOk P w K mg base (L2N.CX P w) 5 z.BookRemove z.fdBookRemove ["self", "name"] (spRemove K o z) := ok_remove T
  have GBookNames : FnOk P w K mg base CX0 1 z.BookNames z.fdBookNames ["self"] (spNames K o z) := ok_names T
  have GBookLen : FnOk P w K mg base CX0 1 z.BookLen z.fdBookLen ["self"] (spBkLen K o z) := ok_bkLen T
  have GBookBool : FnOk P w K mg base CX0 1 z.BookBool z.fdBookBool ["self"] (spBkBool z) := ok_bkBool T
  refine T.fLaw.ok scLaw (fun vs H Q E h => ?_) (fun cdv A outer s H vs Q E hr h => ?_)
  · obtain ⟨a, ns, rfl, _⟩ := h
    rfl
  · obtain ⟨a, ns, rfl, ha, hz, k⟩ := h
    refine ⟨_, (pss_cons (ps_set (i := 1) scLaw.nd rfl (by first | exact Or.inl rfl | exact Or.inr rfl) (by exact (pe_call GLawPurse (hr.mono (by decide)) (by rfl) T.gLawPurse T.kLawPurse T.bLawPurse .nil pass0 (pa_cons (pv 0) pa_nil))))
      (pss_cons (ps_asg (pe_tup (pa_cons (pe_call GLawCalled (hr.mono (by decide)) (by rfl) T.gLawCalled T.kLawCalled T.bLawCalled .nil pass0 (pa_cons (pv 1) (pa_cons pe_int pa_nil))) (pa_cons (pe_make0 T.mkBook GBookInit (hr.mono (by decide)) (by rfl) T.gBook T.bBookInit .nil pass0) (pa_cons pe_dnewK (pa_cons pe_int pa_nil))))) (pg_tup (by rfl) (pgs_cons (pg_name (i := 4) scLaw.nd rfl (by first | exact Or.inl rfl | exact Or.inr rfl)) (pgs_cons (pg_name (i := 5) scLaw.nd rfl (by first | exact Or.inl rfl | exact Or.inr rfl)) (pgs_cons (pg_name (i := 6) scLaw.nd rfl (by first | exact Or.inl rfl | exact Or.inr rfl)) (pgs_cons (pg_name (i := 7) scLaw.nd rfl (by first | exact Or.inl rfl | exact Or.inr rfl)) pgs_nil))))))
      (pss_cons (ps_for PassesOwn.never rfl (pi_range1 (by rfl) T.brange (pa_cons (pe_op op_add pe_int (pe_call GLawDraw (hr.mono (by decide)) (by rfl) T.gLawDraw T.kLawDraw T.bLawDraw .nil pass0 (pa_cons (pv 1) (pa_cons pe_int pa_nil)))) pa_nil)) (pg_name (i := 2) scLaw.nd rfl (by first | exact Or.inl rfl | exact Or.inr rfl)) (pss_cons (XK.ps_parC (i := 3) (j := 9) (by rfl) scLaw.nd rfl rfl (by first | exact Or.inl rfl | exact Or.inr rfl) (by first | exact Or.inl rfl | exact Or.inr rfl) (pa_cons (pe_call GLawPick (hr.mono (by decide)) (by rfl) T.gLawPick T.kLawPick T.bLawPick .nil pass0 (pa_cons (pv 1) (pa_cons (pv 4) pa_nil))) (pa_cons (pe_make T.mkH GInit (hr.mono (by decide)) (by rfl) T.gHouse b3 r3 pass_E0 (pa_cons pe_int (pa_cons (pe_callTy call_tuple_of (by rfl) T.btuple (by decide +kernel) (pa_cons (pe_lc (own := [("_law_word", 11)]) (g := gName 11) (tt := tYes) rfl scLaw.nd (pi_list (pe_call GLawCalled (hr.mono (by decide)) (by rfl) T.gLawCalled T.kLawCalled T.bLawCalled .nil pass0 (pa_cons (pv 1) (pa_cons pe_int pa_nil)))) (blkOk_by (own := [("_law_word", 11)]) (N := NLaw) (sc := defScope sLaw) (by decide +kernel)) (fun _ _ _ _ _ => pg_name (i := 11) scLaw.nd rfl (Or.inl rfl)) (fun _ _ _ _ _ => by exact pts_nil) (fun _ _ _ _ _ => by exact (pe_tup (pa_cons (pv 11) (pa_cons pe_str pa_nil))))) pa_nil)) pa_nil))) pa_nil)) (by rfl))
      (pss_cons (ps_set (i := 8) scLaw.nd rfl (by first | exact Or.inl rfl | exact Or.inr rfl) (by exact (pe_call GLawDraw (hr.mono (by decide)) (by rfl) T.gLawDraw T.kLawDraw T.bLawDraw .nil pass0 (pa_cons (pv 1) (pa_cons pe_int pa_nil)))))
      (pss_cons (ps_if (PW.pt (pw_and (pt_cmpR op_eq (pv 8) pe_int (nomark _)) (pw_and1 (L2.pt_cmp (pc_din (units1 hr) (pv 3) (pv 6)))))) (pss_cons (ps_if (pt_cmpR op_notN (pe_meth (pv 5) T.clBook T.meBookRemove GBookRemove (hr.mono (by decide)) T.bBookRemove .nil pass_E0 (pa_cons (pv 3) pa_nil)) pe_non (nomark _)) (pss_one (ps_ret (by exact pe_bl))) pss_nil)
      (pss_one (ps_set (i := 6) scLaw.nd rfl (by first | exact Or.inl rfl | exact Or.inr rfl) (by exact (pe_callTy (call_dictP rfl) (by rfl) T.bdict (by decide +kernel) (pa_cons (pe_lock (pe_lc (own := [("_law_other", 10)]) (g := gName 10) rfl scLaw.nd (pi_keys (pv 6)) (blkOk_by (own := [("_law_other", 10)]) (N := NLaw) (sc := defScope sLaw) (by decide +kernel)) (fun _ _ _ _ _ => pg_name (i := 10) scLaw.nd rfl (Or.inl rfl)) (fun _ _ _ _ _ => by exact (pts_one (pt_cmpR (r := rNeD K) (op_neD hr.units) (pv 10) (pv 3) (nomark _)))) (fun _ _ _ _ _ => by exact (pe_tup (pa_cons (pv 10) (pa_cons (pe_dget (units1 hr) (pv 6) (pv 10) (fun _ _ => rfl)) pa_nil)))))) pa_nil)))))) (pss_one (ps_if (pt_cmpR op_eq (pv 8) pe_int (nomark _)) (pss_cons (ps_asg (pv 9) (pg_sub (pv 5) (pv 3) (XK.set_own (E := E0) T.bkseq T.hBookSetitem T.fnBookSetitem GBookSetitem T.bBookSetitem (hr.mono (by decide)) pass0)))
      (pss_one (ps_asg (pv 9) (pg_sub (pv 6) (pv 3) (set_dict (units1 hr)))))) (pss_cons (ps_if (pt_cmpR op_notN (XK.pe_methK (ks := ["house", "name"]) (pv 5) T.clBook T.meBookPut GBookPut (hr.mono (by decide)) kbBookPut pass0 (pk_cons (pv 9) (pk_cons (pv 3) pk_nil))) pe_non (nomark _)) (pss_one (ps_ret (by exact pe_bl))) pss_nil)
      (pss_one (ps_asg (pv 9) (pg_sub (pv 6) (pv 3) (set_dict (units1 hr)))))))))
      (pss_cons (ps_set (i := 7) scLaw.nd rfl (by first | exact Or.inl rfl | exact Or.inr rfl) (by exact (pe_op op_add (pv 7) pe_int)))
      (pss_one (ps_if (pt_not (pt_val (pe_call GLawKept (hr.mono (by decide)) (by rfl) T.gLawKept T.kLawKept T.bLawKept .nil pass0 (pa_cons (pv 5) (pa_cons (pv 6) (pa_cons (pv 7) pa_nil)))))) (pss_one (ps_ret (by exact pe_bl))) pss_nil)))))))
      (pss_cons (ps_for PassesOwn.never rfl (pi_list (pe_lst (pa_cons pe_str (pa_cons pe_str (pa_cons pe_str pa_nil))))) (pg_name (i := 3) scLaw.nd rfl (by first | exact Or.inl rfl | exact Or.inr rfl)) (pss_cons (ps_asg (pe_make T.mkH GInit (hr.mono (by decide)) (by rfl) T.gHouse b3 r3 pass_E0 (pa_cons pe_int (pa_cons (pe_tup (pa_cons (pe_tup (pa_cons pe_str (pa_cons pe_str pa_nil))) (pa_cons (pe_tup (pa_cons pe_str (pa_cons pe_str pa_nil))) pa_nil))) pa_nil))) (pg_sub (pv 6) (pv 3) (set_dict (units1 hr))))
      (pss_cons (ps_expr (pe_meth (pv 5) T.clBook T.meBookPut GBookPut (hr.mono (by decide)) T.bBookPut .nil pass0 (pa_cons (pv 3) (pa_cons (pe_dget (units1 hr) (pv 6) (pv 3) (fun _ _ => rfl)) pa_nil))))
      (pss_one (ps_set (i := 7) scLaw.nd rfl (by first | exact Or.inl rfl | exact Or.inr rfl) (by exact (pe_op op_add (pv 7) pe_int)))))))
      (pss_cons (ps_if (PW.pt (pw_or (pt_not (pt_val (pe_call GLawStrange (hr.mono (by decide)) (by rfl) T.gLawStrange T.kLawStrange T.bLawStrange .nil pass0 (pa_cons (pv 5) pa_nil)))) (pw_or (pt_cmpR (r := rNeD K) (op_neD hr.units) (pe_prop (pe_make0 T.mkBook GBookInit (hr.mono (by decide)) (by rfl) T.gBook T.bBookInit .nil pass0) T.clBook T.prBookNames GBookNames (hr.mono (by decide)) T.bBookNames .nil pass0 (by rfl)) (pe_tup pa_nil) (nomark _)) (pw_or (pt_cmpR op_ne (pe_callB (id := "len") (r := rLenOwn z.Book (spBkLen K o z)) (call_lenOwn T.hBookLen T.fnBookLen GBookLen T.bBookLen (hr.mono (by decide))) (by rfl) T.blen (by decide +kernel) (pa_cons (pe_make0 T.mkBook GBookInit (hr.mono (by decide)) (by rfl) T.gBook T.bBookInit .nil pass0) pa_nil)) pe_int (nomark _)) (pw_or1 (pt_not (pt_val (pe_callTy (r := rBoolOwn z.Book (spBkBool z)) (call_boolOwn T.hBookBool T.fnBookBool GBookBool T.bBookBool (hr.mono (by decide))) (by rfl) T.bbool (by decide +kernel) (pa_cons (pe_make0 T.mkBook GBookInit (hr.mono (by decide)) (by rfl) T.gBook T.bBookInit .nil pass0) pa_nil))))))))) (pss_one (ps_ret (by exact pe_bl))) pss_nil)
      (pss_one (ps_ret (by exact (pe_call GLawKept (hr.mono (by decide)) (by rfl) T.gLawKept T.kLawKept T.bLawKept .nil pass0 (pa_cons (pv 5) (pa_cons (pv 6) (pa_cons (pv 7) pa_nil)))))))))))), ?_⟩
    dsimp only [tSeq, tAsg, tLst, gName]
    refine ⟨_, rfl, a, ns, rfl, ha, hz, fun p q H1 hP1 e1 hp0 hq0 => ?_⟩
    refine ⟨_, rfl, p, q, 0, 4, rfl, hP1, by omega, by omega, fun ws l N1 H2 hws hN1 hP2 b2 hl0 hl2 => ?_⟩
    intro x dx hx0 hdx0 hne
    refine ⟨x, dx, rfl, upd_same, fun H3 pg bt3 hx3 hpage => ⟨rfl, ?_⟩⟩
    have e3 := made_ex hx0 hdx0 bt3
    intro kn hkn
    refine ⟨by show 4 ≤ sizeLine; decide, fun t ht => ?_⟩
    refine ⟨t, _, rfl, st_of upd_same, rfl, ?_⟩
    refine ⟨_, _, rfl, _, _, rfl, _, _, rfl, _, _, rfl, rfl, ?_⟩
    have hi : ∃ H5, H5 = upd (upd H3 kn (.dK [])) t (.tup [.ref l, .ref x, .ref kn, .int 0]) ∧ St57 K o z [kn, x, p, q] p q l x kn ws N1 [] [] 0 H5 := by
      refine ⟨_, rfl, ?_⟩
      have sp := hP2.some
      have lne := hP1.ne hl0
      have fr : ∀ {u v : Addr} {H : Hp}, H u = none → (H v).isSome = true → u ≠ v := fun {u v H} h1 h2 e => by rw [e] at h1; rw [h1] at h2; cases h2
      have hxp := fr hx0 sp.1
      have hxq := fr hx0 sp.2
      have hxl : x ≠ l := fr hx0 (by rw [hl2]; rfl)
      have sp3 := (hP2.ex e3).some
      have hkp := fr hkn sp3.1
      have hkq := fr hkn sp3.2
      have hkl : kn ≠ l := fr hkn (by rw [e3 _ _ hl2]; rfl)
      have hkx : kn ≠ x := fr hkn (by rw [hx3]; rfl)
      have eC : Ex H2 (upd (upd H2 dx (.own x)) x (.ins z.Book dx [])) := (Ex.new hdx0).trans (Ex.new (by rw [upd_ne (Ne.symm hne)]; exact hx0))
      have bk3 : BookAt K o z [x, p, q] H3 x [] 0 := by
        refine ⟨by simp, fun a ha => ?_, ⟨dx, pg, hx3, hpage _ fun a ha => ?_⟩, by simp, by simp, by decide⟩
        · simp only [List.mem_cons, List.not_mem_nil, or_false] at ha
          rcases ha with rfl | rfl | rfl
          · rw [hx3]; rfl
          · exact sp3.1
          · exact sp3.2
        · simp only [List.mem_cons, List.not_mem_nil, or_false] at ha
          rcases ha with rfl | rfl | rfl
          · rw [upd_same]; rfl
          · exact (hP2.ex eC).some.1
          · exact (hP2.ex eC).some.2
      have ek : Ex H3 (upd H3 kn (.dK [])) := Ex.new hkn
      have s4 : St57 K o z [kn, x, p, q] p q l x kn ws N1 [] [] 0 (upd H3 kn (.dK [])) := ⟨(hP2.ex e3).ex ek, bk3.add hkn, by simp, by simp, by simp, upd_same, ek _ _ (e3 _ _ hl2), (fun q hq => by cases hq), hxp, hxq, Ne.symm hkx, hxl, hkp, hkq, hkl, lne.1, lne.2⟩
      exact s4.ex (Ex.new ht)
    obtain ⟨H5, h5, s5⟩ := hi
    rw [← h5]
    refine ⟨_, rfl, p, q, N1, 8, rfl, s5.pu, by omega, by omega, by omega, fun d H6 d0 d8 hP6 b6 => ?_⟩
    refine ⟨_, _, rfl, rfl, ?_⟩
    have s6 := s5.drawn b6 hP6
    refine ⟨_, rfl, by omega, by omega, for_range (lo := 0) (n := (1 + d).toNat) (fun i σ H' => ∃ v2 v3 kn G m N v8 v9, σ = [some (.ref a), some (.ref p), v2, v3, some (.ref l), some (.ref x), some (.ref kn), some (.int (i : Int)), v8, v9, none, none] ∧ St57 K o z G p q l x kn ws N m m i H' ∧ m.length ≤ i ∧ N ≤ 13 + 14 * (i : Int))
      ⟨_, _, kn, _, [], _, _, _, rfl, s6, by simp, by simp; omega⟩ ?_ ?_⟩
    · rintro i σ H7 hi ⟨v2, v3, kn, G, m, N, v8, v9, rfl, s7, hml, hN⟩
      have i8 : i ≤ 7 := by omega
      have wl := hws.1
      dsimp only [gName, List.drop]
      refine ⟨_, rfl, _, rfl, p, q, l, N, ws.map V.str, rfl, s7.pu, by omega, s7.mn, s7.lp, s7.lq, (fun e => by rw [List.map_eq_nil_iff] at e; rw [e] at wl; cases wl), (by rw [List.length_map]; omega), fun v H8 hv hP8 b8 => ?_⟩
      obtain ⟨s', hs', rfl⟩ := List.mem_map.mp hv
      have hsn : nameS s' = true := word_name (hws.2.2 s' hs')
      have hsl : s'.length ≤ 100000 := by have := name_len hsn; omega
      have s8 := s7.drawn b8 hP8
      refine ⟨_, rfl, p, q, N + 1, 2, rfl, hP8, by omega, by omega, fun ws2 l2 N2 H9 hws2 hN2 hP9 b9 hl9 hl92 => ?_⟩
      have s9 := s8.drawn b9 hP9
      refine ⟨l2, rfl, ⟨_, sq_of hl92⟩, fun D hD => ?_⟩
      have w2l := hws2.1
      refine lc_list (xs := ws2.map V.str) (fun i H' => Ex H9 H' ∧ ∃ ps : List Addr, ps.length = i ∧ H' D = some (.lst (ps.map V.ref)) ∧ Paired (fun p w => H' p = some (.tup [.str w, .str "hum"])) ps (ws2.take i)) ⟨Ex.new hD, [], rfl, upd_same, .nil⟩ (fun i H' _ h => sq_of (h.1 _ _ hl92)) (fun j y H' hj h => ?_) (fun H' h => ?_)
      · obtain ⟨e10, ps, hpl, hD', hps⟩ := h
        rw [List.getElem?_map] at hj
        obtain ⟨w, hw, rfl⟩ : ∃ w, ws2[j]? = some w ∧ y = .str w := by
          cases e : ws2[j]? with
          | none => rw [e] at hj; cases hj
          | some w => rw [e] at hj; exact ⟨w, rfl, (Option.some.inj hj).symm⟩
        have jl := (List.getElem?_eq_some_iff.mp hw).1
        refine ⟨rfl, ?_⟩
        unfold tYes
        dsimp only
        rw [if_pos rfl]
        refine ⟨_, rfl, by show 2 ≤ sizeLine; decide, fun tp htp => ?_⟩
        have tD : tp ≠ D := fr_ne htp (by rw [hD']; rfl)
        refine ⟨ps.map V.ref, by rw [upd_ne (Ne.symm tD)]; exact hD', by rw [List.length_map, sizeLine_eq]; omega, ?_, ps ++ [tp], by simp [hpl], ?_, ?_⟩
        · intro ad u hc
          have cD : ad ≠ D := fun e => by rw [e, hD] at hc; cases hc
          rw [upd_ne cD]
          exact (e10.trans (Ex.new htp)) _ _ hc
        · rw [upd_same, List.map_append]
          rfl
        · rw [List.take_succ, hw]
          refine Paired.snoc (L2.Paired.mapP hps fun ad w hc => ?_) ?_
          · have cD : ad ≠ D := fun e => by rw [e, hD'] at hc; cases hc
            rw [upd_ne cD]
            exact Ex.new htp _ _ hc
          · rw [upd_ne tD]
            exact upd_same
      · obtain ⟨e10, ps, hpl, hD', hps⟩ := h
        rw [List.length_map, List.take_length] at hps
        refine ⟨D, ps.map V.ref, rfl, .inl ⟨sq_of hD', fun t2 ht2 => ?_⟩⟩
        have e11 : Ex H' (upd H' t2 (.tup (ps.map V.ref))) := Ex.new ht2
        have da : Da K (upd H' t2 (.tup (ps.map V.ref))) (.ref t2) (twoD ws2) := da_two upd_same (L2.Paired.mapP hps fun ad w hc => e11 _ _ hc) hws2.2.2
        intro hm dhm hhm hdhm hnm
        refine make2 hws2 da T.e1 T.e2 hhm hdhm hnm fun H11 e12 hHs => ⟨rfl, ?_⟩
        have s10 := s9.ex (e10.trans e11)
        have hmG : hm ∉ G := new_out s10.bk.vis hhm
        have s11 := s10.ex e12
        have hH11 := hHs.hd hmG
        clear da hps hD' hpl hHs hhm e12 e11 ht2 e10
        refine ⟨_, _, rfl, ?_⟩
        refine ⟨_, rfl, p, q, N2, 4, rfl, s11.pu, by omega, by omega, by omega, fun d2 H12 d20 d24 hP12 b12 => ?_⟩
        have s12 := s11.drawn b12 hP12
        have hH12 := hH11.ex (b12.hd s11.pG s11.qG)
        have hN2' : N2 + 1 ≤ 13 + 14 * ((i + 1 : Nat) : Int) := by push_cast; omega
        clear hH11 s11 s10 s9 s8 s7 b12 b9 b8 hl92 hl9 hD hP8 hP9 hP12
        dsimp only [gName, List.set]
        refine seq_by (fun σ' H' => ∃ kn' G' m', σ' = [some (.ref a), some (.ref p), some (.int (0 + (i : Int))), some (.str s'), some (.ref l), some (.ref x), some (.ref kn'), some (.int (i : Int)), some (.int d2), some (.ref hm), none, none] ∧ St57 K o z G' p q l x kn' ws (N2 + 1) m' m' (i + 1) H' ∧ m'.length ≤ i + 1) ?_ (fun Nx hNx => ?_)
        · rintro σ' H13 ⟨kn', G', m', rfl, s13, hm'⟩
          refine ⟨_, rfl, _, _, rfl, rfl, ?_⟩
          refine ⟨_, rfl, _, rfl, _, rfl, G', x, kn', m', i + 1, rfl, s13.bk, s13.nm, s13.kno, fun H14 e14 => ⟨_, rfl, if_n rfl ?_⟩⟩
          exact ⟨_, _, kn', G', m', _, _, _, rfl, s13.ex e14, hm', hN2'⟩
        · obtain ⟨dxb, pgb, hbx, _⟩ := s12.bk.ob
          -- a house comes under the name
          have put2 : ∀ H13, But x H12 H13 → BookAt K o z G H13 x (putM m s' hm) (i + 1) →
              rSetD (.ref kn) (.str s') (.ref hm) H13 fun H14 => Nx [some (.ref a), some (.ref p), some (.int (0 + (i : Int))), some (.str s'), some (.ref l), some (.ref x), some (.ref kn), some (.int (i : Int)), some (.int d2), some (.ref hm), none, none] H14 := fun H13 bt b13 => by
            have s13 := s12.book bt b13 (putM_named s12.nm hsn)
            have ml : (kvV m).length = m.length := List.length_map _
            refine ⟨kn, _, rfl, .inl ⟨kvV m, Sum.inr s', s13.kno, rfl, by rw [ml, sizeLine_eq]; omega, rfl⟩, ?_⟩
            rw [putK_kv]
            exact hNx _ _ ⟨kn, G, _, rfl, s13.known, by have := putM_len m s' hm; omega⟩
          have els : tIfS (tTest (tOp rEq (tVar 8) (tC (.int 1))))
              (tSeq (tAsg (tVar 9) (gSub (tVar 5) (tVar 3) (rSetOwn z.Book (spPut K o z) E0))) (tAsg (tVar 9) (gSub (tVar 6) (tVar 3) rSetD)))
              (tSeq (tIfS (tTest (tOp (fun x y H Q => y = V.non ∧ Q (V.bl !decide (x = V.non)) H) (tMethK z.Book "put" 2 (spPut K o z) gPutV E0 (tVar 5) (tCons (tVar 9) (tCons (tVar 3) tNil))) (tC .non))) (tRet (tC (.bl false))) tNext)
                (tAsg (tVar 9) (gSub (tVar 6) (tVar 3) rSetD))) { nx := Nx, rt := Q } [some (.ref a), some (.ref p), some (.int (0 + (i : Int))), some (.str s'), some (.ref l), some (.ref x), some (.ref kn), some (.int (i : Int)), some (.int d2), some (.ref hm), none, none] H12 := by
            refine ⟨_, rfl, rfl, _, rfl, if_b (fun _ => ?_) (fun _ => ?_)⟩
            · refine ⟨_, rfl, _, rfl, _, rfl, x, dxb, _, rfl, hbx, G, x, s', hm, m, i, rfl, s12.bk, hsn, hH12, by omega, by omega, fun H13 bt b13 => ?_⟩
              exact ⟨_, rfl, _, rfl, _, rfl, put2 H13 bt b13⟩
            · refine ⟨_, rfl, x, dxb, _, rfl, hbx, rfl, _, rfl, _, rfl, rfl, G, x, s', hm, m, i, rfl, s12.bk, hsn, hH12, by omega, by omega, fun H13 bt b13 => ⟨rfl, _, rfl, if_n (by simp) ?_⟩⟩
              exact ⟨_, rfl, _, rfl, _, rfl, put2 H13 bt b13⟩
          refine ⟨_, rfl, rfl, _, rfl, if_b (fun _ => ?_) (fun _ => if_n rfl els)⟩
          refine ⟨_, rfl, _, rfl, kn, _, rfl, .k (k := Sum.inr s') s12.kno, _, rfl, if_b (fun hin => ?_) (fun _ => els)⟩
          rw [in_dict] at hin
          -- the name goes
          refine ⟨_, rfl, x, dxb, _, rfl, hbx, rfl, _, rfl, G, x, .str s', .str s', m, i, rfl, s12.bk, .str s' hsl, by omega, fun s2 es _ H13 bt b13 => ?_, fun hf => by rw [show inM (.str s') m = (m.lookup s').isSome from rfl, hin] at hf; cases hf⟩
          cases es
          refine ⟨rfl, _, rfl, if_n (by simp) ?_⟩
          have s13 := s12.book bt b13 (dropM_named s12.nm)
          have nd := s12.bk.nd
          have nmd := s12.nm
          have kl : (kvV m).length = m.length := List.length_map _
          refine ⟨kn, .dK (kvV m), s13.kno, trivial, fun od => ?_⟩
          have L : ∀ {ad : Addr} {u : HO}, ad ≠ kn → H13 ad = some u → upd H13 kn (.frz od (.dK (kvV m))) ad = some u := fun {ad u} na e => by rw [upd_ne na]; exact e
          refine lc_run (J := Itk kn od (kvV m)) m.length (fun H' => Ex (upd H13 kn (.frz od (.dK (kvV m)))) H') (fun D j H' => Ex (upd H13 kn (.frz od (.dK (kvV m)))) H' ∧ upd H13 kn (.frz od (.dK (kvV m))) D = none ∧ ∃ ps : List Addr, ps.length ≤ j ∧ H' D = some (.lst (ps.map V.ref)) ∧ Paired (fun (p : Addr) (kv : Key × V) => H' p = some (.tup [kV kv.1, kv.2])) ps (kvV (dropM (m.take j) s')))
            (fun R r => ?_) (fun D H' e hD' => ⟨e.trans (Ex.new hD'), fresh_back e hD', [], by simp, upd_same, .nil⟩) (fun D H' h => ⟨h.1 _ _ upd_same, by rw [kl]; exact Nat.le_refl _⟩) (fun D j H' hj h => ⟨⟨h.1 _ _ upd_same, by rw [kl]; exact hj⟩, fun y H14 hy N0 hN0 => ?_⟩) (fun D H' h => ?_)
          · exact ⟨_, rfl, kn, od, rfl, .inl ⟨kvV m, upd_same, r _ (Ex.refl _)⟩⟩
          · obtain ⟨rfl, kk, vv, hkk, rfl⟩ := hy
            obtain ⟨e14, hD0, ps, hpl, hD', hps⟩ := h
            obtain ⟨qq, hqq⟩ : ∃ qq, m[j]? = some qq := ⟨_, List.getElem?_eq_getElem hj⟩
            rw [kv_at hqq] at hkk
            obtain ⟨rfl, rfl⟩ : Sum.inr qq.1 = kk ∧ V.ref qq.2 = vv := by
              have := Option.some.inj hkk
              exact ⟨congrArg Prod.fst this, congrArg Prod.snd this⟩
            have ft := filt_take (s := s') hqq
            have qn : nameS qq.1 = true := nmd qq (List.mem_of_getElem? hqq)
            refine ⟨rfl, ?_⟩
            refine ⟨_, rfl, _, rfl, .str qq.1, .str s', .str _, .str _, shapedS qn, shapedS hsn, ?_⟩
            rw [eqvS]
            refine ⟨_, rfl, if_b (fun hne => ?_) (fun heq => ?_)⟩
            · have ne : qq.1 ≠ s' := by simpa using hne
              rw [if_neg ne] at ft
              refine ⟨_, rfl, _, rfl, _, rfl, kn, .ref qq.2, rfl, ?_, ?_⟩
              · have lv : valV (kvV m) (Sum.inr qq.1) = some (.ref qq.2) := by rw [valV_kv, look_at nd hqq]; rfl
                rw [← lv]
                exact .inl ⟨kvV m, Sum.inr qq.1, .inr ⟨od, e14 _ _ upd_same⟩, rfl, rfl⟩
              · refine ⟨by show 2 ≤ sizeLine; decide, fun tp htp => ?_⟩
                have tD : tp ≠ D := fr_ne htp (by rw [hD']; rfl)
                refine ⟨ps.map V.ref, by rw [upd_ne (Ne.symm tD)]; exact hD', by rw [List.length_map, sizeLine_eq]; omega, hN0 _ ⟨?_, hD0, ps ++ [tp], by simp; omega, ?_, ?_⟩⟩
                · intro ad u hc
                  have cD : ad ≠ D := fun e => by rw [e, hD0] at hc; cases hc
                  rw [upd_ne cD]
                  exact (e14.trans (Ex.new htp)) _ _ hc
                · rw [upd_same, List.map_append]
                  rfl
                · rw [ft]
                  have e : kvV (dropM (m.take j) s' ++ [qq]) = kvV (dropM (m.take j) s') ++ [(Sum.inr qq.1, .ref qq.2)] := List.map_append
                  rw [e]
                  refine Paired.snoc (L2.Paired.mapP hps fun ad w hc => ?_) ?_
                  · have cD : ad ≠ D := fun e => by rw [e, hD'] at hc; cases hc
                    rw [upd_ne cD]
                    exact Ex.new htp _ _ hc
                  · rw [upd_ne tD]
                    exact upd_same
            · have eq : qq.1 = s' := by simpa using heq
              rw [if_pos eq] at ft
              exact hN0 _ ⟨e14, hD0, ps, by omega, hD', by rw [ft]; exact hps⟩
          · obtain ⟨e14, hD0, ps, hpl, hD', hps⟩ := h
            rw [List.take_length] at hps
            have dL := e14 _ _ (upd_same : upd H13 kn (.frz od (.dK (kvV m))) kn = _)
            have nD : D ≠ kn := fun e => by rw [e, upd_same] at hD0; cases hD0
            have e15 : Ex H13 (upd H' kn (.dK (kvV m))) := fun ad u e => by
              by_cases qz : ad = kn
              · rw [qz] at e ⊢
                rw [upd_same, ← e, s13.kno]
              · rw [upd_ne qz]
                exact e14 _ _ (L qz e)
            refine ⟨dL, D, ps, kvV (dropM m s'), rfl, sq_of (by rw [upd_ne nD]; exact hD'), L2.Paired.mapP hps fun ad w hc => st_of ?_, fun k2 hk2 => ?_⟩
            · have cD : ad ≠ kn := fun e => by rw [e, dL] at hc; cases hc
              rw [upd_ne cD]
              exact hc
            · rw [merge_nil (dropM_nd nd)]
              dsimp only [gName, List.set]
              exact hNx _ _ ⟨k2, _, _, rfl, (s13.ex e15).anew hk2, by have := dropM_len m s'; omega⟩
    · rintro σ H7 ⟨v2, v3, kn, G, m, N, v8, v9, rfl, s7, hml, hN⟩
      have n8 : (1 + d).toNat ≤ 8 := by omega
      generalize (1 + d).toNat = i at s7 hml hN n8 ⊢
      dsimp only
      clear s6 s5 b6 hP6 h5 hl2 hl0 hP2 b2 hP1 e1 hx0 hdx0 bt3 hx3 hpage e3 hkn ht hN1 hws
      refine q_forNLn (xs := [.str "not", .str "and", .str "if"]) (fun H0 e Q q => ⟨by show 3 ≤ sizeLine; decide, fun p hp => q p _ hp (Ex.new hp) upd_same⟩) (fun l3 j σ H' => ∃ v2 v3 v8 v9 m, σ = [some (.ref a), some (.ref p), v2, v3, some (.ref l), some (.ref x), some (.ref kn), some (.int ((i + j : Nat) : Int)), v8, v9, none, none] ∧ St57 K o z G p q l x kn ws N m m (i + j) H' ∧ m.length ≤ i + j ∧ H' l3 = some (.lst [.str "not", .str "and", .str "if"]) ∧ l3 ≠ x ∧ l3 ≠ kn)
        (fun l3 H8 hl3 e8 h8 => ?_) (fun l3 j σ H' _ h => ?_) (fun l3 j y σ H8 hj h => ?_) (fun l3 σ H8 h => ?_)
      · obtain ⟨dxb, pgb, hbx, _⟩ := s7.bk.ob
        exact ⟨_, _, _, _, m, rfl, s7.ex e8, hml, h8, fr_ne hl3 (by rw [hbx]; rfl), fr_ne hl3 (by rw [s7.kno]; rfl)⟩
      · obtain ⟨_, _, _, _, _, _, _, _, h, _⟩ := h
        exact sq_of h
      · obtain ⟨v2, v3, v8, v9, m, rfl, s8, hml, hl3, lx, lk⟩ := h
        obtain ⟨w, rfl, hw, j3⟩ : ∃ w : Str, y = .str w ∧ nameS w = true ∧ j < 3 := by
          have jl := (List.getElem?_eq_some_iff.mp hj).1
          have j3 : j < 3 := jl
          match j, j3 with
          | 0, _ => exact ⟨"not", (Option.some.inj hj).symm, by decide +kernel, by decide⟩
          | 1, _ => exact ⟨"and", (Option.some.inj hj).symm, by decide +kernel, by decide⟩
          | 2, _ => exact ⟨"if", (Option.some.inj hj).symm, by decide +kernel, by decide⟩
        dsimp only [List.set]
        refine ⟨by show 2 ≤ sizeLine; decide, fun t1 ht1 => ⟨by show 2 ≤ sizeLine; decide, fun t2 ht2 => ⟨by show 2 ≤ sizeLine; decide, fun t3 ht3 => ?_⟩⟩⟩
        have f1 := Ex.new (o := .tup [.str "free", .str "hum"]) ht1
        have f2 := Ex.new (o := .tup [.str "ring", .str "hum"]) ht2
        have f3 := Ex.new (o := .tup [.ref t1, .ref t2]) ht3
        have f13 := (f1.trans f2).trans f3
        intro hm dhm hhm hdhm hnm
        refine make2 (ws := ["free", "ring"]) ⟨rfl, by decide +kernel, by decide +kernel⟩ (da_two (ps := [t1, t2]) upd_same (.cons ((f2.trans f3) _ _ upd_same) (.cons (f3 _ _ upd_same) .nil)) (by decide +kernel)) T.e1 T.e2 hhm hdhm hnm fun H11 e12 hHs => ⟨rfl, ?_⟩
        have s10 := s8.ex f13
        have hmG : hm ∉ G := new_out s10.bk.vis hhm
        have s11 := s10.ex e12
        have hH11 := hHs.hd hmG
        have hl11 := (f13.trans e12) _ _ hl3
        have ml : (kvV m).length = m.length := List.length_map _
        refine ⟨_, rfl, _, rfl, kn, _, rfl, .inl ⟨kvV m, Sum.inr w, s11.kno, rfl, by rw [ml, sizeLine_eq]; omega, rfl⟩, ?_⟩
        rw [putK_kv]
        have s12 : St57 K o z G p q l x kn ws N m (putM m w hm) (i + j) (upd H11 kn (.dK (kvV (putM m w hm)))) := s11.known
        have hH12 : HsW o.House (hd G (upd H11 kn (.dK (kvV (putM m w hm))))) hm := hH11.ex (But.hd But.up s11.kG)
        have hl12 : upd H11 kn (.dK (kvV (putM m w hm))) l3 = some (.lst [.str "not", .str "and", .str "if"]) := by rw [upd_ne lk]; exact hl11
        generalize upd H11 kn (.dK (kvV (putM m w hm))) = H12 at s12 hH12 hl12 ⊢
        obtain ⟨dxb, pgb, hbx, _⟩ := s12.bk.ob
        refine ⟨_, rfl, x, dxb, _, rfl, hbx, rfl, _, rfl, _, rfl, _, rfl, kn, .ref hm, rfl, ?_, G, x, w, hm, m, i + j, rfl, s12.bk, hw, hH12, by omega, by omega, fun H13 bt b13 => ?_⟩
        · have lv : valV (kvV (putM m w hm)) (Sum.inr w) = some (.ref hm) := by rw [valV_kv, look_put s12.bk.nd]; rfl
          rw [← lv]
          exact .k (k := Sum.inr w) s12.kno
        · have s13 := s12.book bt b13 (putM_named s12.nm hw)
          refine ⟨_, rfl, _, _, rfl, rfl, ?_⟩
          exact ⟨_, _, _, _, _, rfl, s13, by have := putM_len m w hm; omega, bt _ _ lx hl12, lx, lk⟩
      · obtain ⟨v2, v3, v8, v9, m, rfl, s8, hml, _⟩ := h
        dsimp only [List.length] at s8 hml ⊢
        refine ⟨_, rfl, G, x, m, _, rfl, s8.bk, s8.nm, by omega, fun H9 e9 => ⟨_, rfl, if_n rfl ?_⟩⟩
        intro y1 d1 hy1 hd1 hn1
        refine ⟨y1, d1, rfl, upd_same, fun H10 g10 bt10 hy10 hp10 => ⟨rfl, ?_⟩⟩
        have e10 := made_ex hy1 hd1 bt10
        refine ⟨y1, d1, _, rfl, hy10, [y1], y1, [], 0, rfl, book_new hy10 hp10, fun ss t H11 perm _ e11 ht11 => ?_⟩
        obtain rfl : ss = [] := List.Perm.eq_nil perm
        refine ⟨by show 0 ≤ sizeLine; decide, fun t4 ht4 => ?_⟩
        have e12 : Ex H11 (upd H11 t4 (.tup [])) := Ex.new ht4
        refine ⟨.tuple [], .tuple [], .tup (st_of (e12 _ _ ht11)) .nil, .tup (st_of upd_same) .nil, by decide, by decide, _, rfl, if_n (by decide) ?_⟩
        generalize upd H11 t4 (.tup []) = H12 at e12
        intro y2 d2 hy2 hd2 hn2
        refine ⟨y2, d2, rfl, upd_same, fun H13 g13 bt13 hy13 hp13 => ⟨rfl, ?_⟩⟩
        have e13 := made_ex hy2 hd2 bt13
        refine ⟨y2, d2, _, rfl, hy13, [y2], y2, [], 0, rfl, book_new hy13 hp13, fun H14 e14 => ⟨_, rfl, by simp, by simp, ?_⟩⟩
        refine ⟨rfl, _, rfl, if_n (by simp) ?_⟩
        intro y3 d3 hy3 hd3 hn3
        refine ⟨y3, d3, rfl, upd_same, fun H15 g15 bt15 hy15 hp15 => ⟨rfl, ?_⟩⟩
        have e15 := made_ex hy3 hd3 bt15
        refine ⟨y3, d3, _, rfl, hy15, y3, d3, _, rfl, hy15, fun H16 e16 => ⟨true, rfl, ?_⟩⟩
        refine ⟨_, rfl, if_n rfl ?_⟩
        have s16 := s8.ex (((((((e9.trans e10).trans e11).trans e12).trans e13).trans e14).trans e15).trans e16)
        refine ⟨_, rfl, _, rfl, _, rfl, G, x, kn, m, _, rfl, s16.bk, s16.nm, s16.kno, fun H' _ => k H'⟩
end
end L2.KB

set_option Elab.async false
set_option maxRecDepth 100000
set_option maxHeartbeats 4000000
set_option linter.all false
/-! What the top has written, packed. -/
namespace L2.XK
open PySem PySem.Spec PyProof.Rows XC Evl
section
variable {K : PySem.W.Frag} {h : Heap} {mg : Str → Option Value} {n : Str}
structure PkC (K : PySem.W.Frag) (mg : Str → Option Value) (n : Str) (C : Addr) : Prop where
  g : mg n = some (.ref C)
  o : isOwn K C
theorem pkC (n : Str) {C : Addr} (X : K.In h) (G : h.Ns mainGlobals mg) (a : PySem.W.nsIn K mainGlobals n = some (some (.ref C))) (cl : PySem.W.isClsIn K C = true)
    (ty : PySem.W.typeIn K (.ref C) = some (.type "type")) : PkC K mg n C := by
  refine ⟨PySem.W.mg_of X G a, ?_⟩
  have cl' : (PySem.W.clsIn K C).isSome = true := cl
  unfold isOwn
  rw [cl', ty] <;> rfl
structure PkGv (K : PySem.W.Frag) (mg : Str → Option Value) (n : Str) (C fI W : Addr) (B newId initId : String) (bmB : List Value) : Prop extends PkC K mg n C where
  c : ClsGv K C fI B newId initId bmB
  s : Srt K C W B
theorem pkGv (n : Str) (B newId initId : String) (bmB : List Value) {C fI W : Addr} {cd : ClassData} {oc : Value} {od : Option Addr} {doc pm kV : Value} {an : Option Addr} {cdv ct : Value} {osl : Array (Option Value)} {qual : Str} {p0 p1 q00 q01 q02 q03 : Pos}
    (X : K.In h) (G : h.Ns mainGlobals mg) (eb : ExcBaseFacts B newId initId bmB) (es : StoreFacts B bmB "object.__setattr__" "object")
    (a : PySem.W.nsIn K mainGlobals n = some (some (.ref C))) (cl : PySem.W.isClsIn K C = true) (ty : PySem.W.typeIn K (.ref C) = some (.type "type"))
    (hc : PySem.W.clsIn K C = some cd) (hm : cd.mro = [.ref C, .ref W, .type B, .type "Exception", .type "BaseException", .type "object"])
    (ini : PySem.W.excInitIn K C bmB newId = true) (ov : PySem.W.excOver K C bmB = true)
    (sa : PySem.W.findIn K (.ref C) "__setattr__" = some (some (.builtin "object.__setattr__")))
    (ga : PySem.W.findIn K (.ref C) "__getattribute__" = some (some (.builtin "BaseException.__getattribute__")))
    (gg : PySem.W.findIn K (.ref C) "__getattr__" = some none) (kC : PySem.W.keepIn K (.ref C) = true)
    (exC : PySem.W.subIn K (.ref C) (.type "BaseException") = some true) (hd : PySem.W.hasDictIn K C = true)
    (iC : PySem.W.findIn K (.ref C) "__init__" = some (some (.ref fI))) (tC : PySem.W.typeIn K (.ref fI) = some (.type "function"))
    (n0 : PySem.W.findIn K (.ref C) "given" = some none)
    (l : K.lookup fI = some ⟨oc, od, .func (PySem.W.fnOf "__init__" qual (argsGv p0 p1) (bodyGv q00 q01 q02 q03) scopeGv .none kV doc pm an cdv ct), osl⟩)
    (cI : PySem.W.codeIn K cdv qual = true) (cC : PySem.W.findIn K (.ref C) "__class__" = some (some (.builtin "object.__class__")))
    (sp : PySem.W.specialIn K (.builtin "object.__class__") "__get__" = some (some (.builtin "getset_descriptor.__get__")))
    (tk : PySem.W.takesIn K (.builtin "object.__class__") = some true) (mo : PySem.W.mroIn K C (.type "object") = some true) : PkGv K mg n C fI W B newId initId bmB :=
  { pkC n X G a cl ty with
    c := { base := eb, store := es, ini := ini, over := ov, sa := sa, ga := ga, gg := gg, kC := kC, exC := exC, hd := hd, iC := iC, tC := tC, n0 := n0, fn := ⟨_, _, _, _, _, _, _, _, _, _, _, _, _, _, _, _, l, cI⟩ }
    s := ⟨⟨cl, ga, gg, exC, cC, sp, tk, mo⟩, cd, hc, hm⟩ }
structure PkIx (K : PySem.W.Frag) (mg : Str → Option Value) (n : Str) (C fI W : Addr) (B newId initId : String) (bmB : List Value) : Prop extends PkC K mg n C where
  c : ClsIx K C fI B newId initId bmB
  s : Srt K C W B
theorem pkIx (n : Str) (B newId initId : String) (bmB : List Value) {C fI W : Addr} {cd : ClassData} {oc : Value} {od : Option Addr} {doc pm kV : Value} {an : Option Addr} {cdv ct : Value} {osl : Array (Option Value)} {qual : Str} {p0 p1 q00 q01 q02 q03 : Pos}
    (X : K.In h) (G : h.Ns mainGlobals mg) (eb : ExcBaseFacts B newId initId bmB) (es : StoreFacts B bmB "object.__setattr__" "object")
    (a : PySem.W.nsIn K mainGlobals n = some (some (.ref C))) (cl : PySem.W.isClsIn K C = true) (ty : PySem.W.typeIn K (.ref C) = some (.type "type"))
    (hc : PySem.W.clsIn K C = some cd) (hm : cd.mro = [.ref C, .ref W, .type B, .type "Exception", .type "BaseException", .type "object"])
    (ini : PySem.W.excInitIn K C bmB newId = true) (ov : PySem.W.excOver K C bmB = true)
    (sa : PySem.W.findIn K (.ref C) "__setattr__" = some (some (.builtin "object.__setattr__")))
    (ga : PySem.W.findIn K (.ref C) "__getattribute__" = some (some (.builtin "BaseException.__getattribute__")))
    (gg : PySem.W.findIn K (.ref C) "__getattr__" = some none) (kC : PySem.W.keepIn K (.ref C) = true)
    (exC : PySem.W.subIn K (.ref C) (.type "BaseException") = some true) (hd : PySem.W.hasDictIn K C = true)
    (iC : PySem.W.findIn K (.ref C) "__init__" = some (some (.ref fI))) (tC : PySem.W.typeIn K (.ref fI) = some (.type "function"))
    (n0 : PySem.W.findIn K (.ref C) "index" = some none)
    (l : K.lookup fI = some ⟨oc, od, .func (PySem.W.fnOf "__init__" qual (argsIx p0 p1) (bodyIx q00 q01 q02 q03) scopeIx .none kV doc pm an cdv ct), osl⟩)
    (cI : PySem.W.codeIn K cdv qual = true) (cC : PySem.W.findIn K (.ref C) "__class__" = some (some (.builtin "object.__class__")))
    (sp : PySem.W.specialIn K (.builtin "object.__class__") "__get__" = some (some (.builtin "getset_descriptor.__get__")))
    (tk : PySem.W.takesIn K (.builtin "object.__class__") = some true) (mo : PySem.W.mroIn K C (.type "object") = some true) : PkIx K mg n C fI W B newId initId bmB :=
  { pkC n X G a cl ty with
    c := { base := eb, store := es, ini := ini, over := ov, sa := sa, ga := ga, gg := gg, kC := kC, exC := exC, hd := hd, iC := iC, tC := tC, n0 := n0, fn := ⟨_, _, _, _, _, _, _, _, _, _, _, _, _, _, _, _, l, cI⟩ }
    s := ⟨⟨cl, ga, gg, exC, cC, sp, tk, mo⟩, cd, hc, hm⟩ }
theorem rel_abs {u : Value} {v : V} (e : absV u = some v) : RelV v u := by
  cases u <;> first | (cases e; rfl) | (cases e; exact ⟨_, rfl⟩) | cases e
theorem vals_abs : ∀ {us : List Value} {vs : List V}, us.map absV = vs.map some → Vals vs us
  | [], [], _ => .nil
  | u :: us, v :: vs, e => by
    have e' : absV u = some v ∧ us.map absV = vs.map some := by simpa using e
    exact .cons (rel_abs e'.1) (vals_abs e'.2)
  | [], _ :: _, e => by simp at e
  | _ :: _, [], e => by simp at e
theorem pkTp {r : Addr} {od : Option Addr} {its : Array Value} {m : Nat} {sl : Array (Option Value)} (ws : List Str) (l : K.lookup r = some ⟨.type "tuple", od, .seq its m, sl⟩)
    (e : its.toList.map absV = (ws.map V.str).map some) (hz : ws.length ≤ 1000) : KC.WT K r ws := fun H => .inr ⟨_, its, m, l, rfl, rfl, by
      have := (vals_abs e).length
      rw [List.length_map] at this
      rw [← Array.length_toList, ← this]
      exact sz_of (by omega), vals_abs e⟩
theorem raOf {n : Str} {C fI W : Addr} {B newId initId : String} {bmB : List Value} (p : PkIx K mg n C fI W B newId initId bmB) : RaB K C := by
  refine ⟨p.c.exC, ?_⟩
  have o := p.o
  unfold isOwn at o
  rw [Bool.and_eq_true] at o
  exact eq_of_beq o.2
theorem raOfGv {n : Str} {C fI W : Addr} {B newId initId : String} {bmB : List Value} (p : PkGv K mg n C fI W B newId initId bmB) : RaB K C := by
  refine ⟨p.c.exC, ?_⟩
  have o := p.o
  unfold isOwn at o
  rw [Bool.and_eq_true] at o
  exact eq_of_beq o.2
end
end L2.XK

set_option Elab.async false
set_option maxRecDepth 100000
set_option maxHeartbeats 4000000
set_option linter.all false
namespace L2.HM
open PySem PySem.Spec PyProof.Rows XK XC
theorem fdAt_ok {K : Fg} {a : Addr} {fd : FuncData} (h : fdAt K a = some fd) : ∃ oc od osl, K.lookup a = some ⟨oc, od, .func fd, osl⟩ := by
  unfold fdAt at h
  cases q : K.lookup a with
  | none => rw [q] at h; cases h
  | some o =>
    obtain ⟨oc, od, dt, osl⟩ := o
    rw [q] at h
    cases dt with
    | func f => cases h; exact ⟨oc, od, osl, rfl⟩
    | _ => cases h
theorem cdName_ok {K : Fg} {cd : Value} {q : Str} (h : cdName K cd = some q) : PySem.W.codeIn K cd q = true := by
  unfold cdName at h
  unfold PySem.W.codeIn
  split at h
  · split at h
    · rename_i e
      dsimp only
      rw [e]
      dsimp only
      split at h
      · rename_i e2
        rw [e2]
        cases h
        exact beq_self_eq_true _
      · cases h
    · cases h
  · cases h
theorem Df.fun_ {K : Fg} {d : Df} (e : d.see K = d.v) (c : d.b K = true) : ∃ fd, FunD K d.nm d.ql (defArgs d.st) (defBody d.st) (defScope d.st) (d.df K) [] (d.ad K) fd := by
  unfold Df.see Df.v at e
  unfold Df.b at c
  cases q : fdAt K (d.ad K) with
  | none => rw [q] at e; cases e
  | some f =>
    rw [q] at e c
    obtain ⟨oc, od, osl, l⟩ := fdAt_ok q
    obtain ⟨m1, m2, m3, m4, m5, m6, m7, m8, m9, m10, m11, m12, m13, m14, m15⟩ := f
    simp only [Option.map_some, fv, Option.some.injEq, Prod.mk.injEq] at e
    obtain ⟨⟨⟨rfl, rfl⟩, ⟨rfl, rfl, rfl⟩, rfl, rfl, rfl⟩, hn⟩ := e
    simp only [Bool.and_eq_true] at c
    exact ⟨_, ⟨oc, od, m8, m9, m10, m11, m12, m13, m14, osl, rfl, l, cdName_ok hn, He.dflB_ok c.2, .inl rfl⟩, c.1⟩
theorem funOfD {K : Fg} {x q : Str} {st : Stmt} {f : Addr} {fd : FuncData} (F : FunD K x q (defArgs st) (defBody st) (defScope st) [] [] f fd) : Fun K x q st f fd := by
  obtain ⟨⟨oc, od, dV, kV, doc, pm, an, cdv, ct, osl, e, l, c, hd, _⟩, kp⟩ := F
  rcases hd with ⟨_, rfl⟩ | ⟨h, _⟩
  · exact ⟨⟨oc, od, kV, doc, pm, an, cdv, ct, osl, e, l, c⟩, kp⟩
  · exact absurd rfl h
section
variable {W : Wn} {w : World} {h : Heap} {K : Fg} {mg : Str → Option Value}
theorem Says.def_ (c : Says W w h K) (i : Nat) {d : Df} (e : W.fs[i]? = some d) : ∃ fd, FunD K d.nm d.ql (defArgs d.st) (defBody d.st) (defScope d.st) (d.df K) [] (d.ad K) fd := by
  have m := List.mem_of_getElem? e
  refine Df.fun_ ?_ (List.all_eq_true.mp c.b d m)
  have z := congrArg (fun l => l[i]?) c.v
  simp only [List.getElem?_map, e, Option.map_some, Option.some.injEq] at z
  exact z
theorem Says.fn (c : Says W w h K) (i : Nat) {ad : Fg → Addr} {nm ql : Str} {st : Stmt} (e : W.fs[i]? = some ⟨ad, nm, ql, st, fun _ => []⟩) : ∃ fd, Fun K nm ql st (ad K) fd := by
  obtain ⟨fd, F⟩ := c.def_ i e
  exact ⟨fd, funOfD F⟩
end
theorem tpB_ok {K : Fg} {ws : List Str} {a : Fg → Addr} (hz : ws.length ≤ 1000) (h : tpB ws a K = true) : KC.WT K (a K) ws := by
  unfold tpB at h
  cases q : K.lookup (a K) with
  | none => rw [q] at h; cases h
  | some o =>
    obtain ⟨oc, od, dt, osl⟩ := o
    rw [q] at h
    cases oc with
    | type c =>
      cases dt with
      | seq its m =>
        have h' : (decide (c = "tuple") && decide (its.toList.map absV = (ws.map V.str).map some)) = true := h
        simp only [Bool.and_eq_true, decide_eq_true_eq] at h'
        obtain ⟨rfl, e⟩ := h'
        exact pkTp ws q e hz
      | _ => cases h
    | _ => cases dt <;> cases h
theorem find_at : ∀ {l : List DictEntry} {ks : List Str}, l.map keyO = ks.map some → ks.Nodup → ∀ (i : Nat) (x : Str), ks[i]? = some x → ∃ e, l[i]? = some e ∧ l.find? (·.key.isStr x) = some e
  | [], [], _, _, i, x, h => by simp at h
  | [], _ :: _, h, _, _, _, _ => by simp at h
  | _ :: _, [], h, _, _, _, _ => by simp at h
  | e :: l, k :: ks, h, nd, i, x, hx => by
    simp only [List.map_cons, List.cons.injEq] at h
    obtain ⟨h1, h2⟩ := h
    have hk : e.key.isStr x = (k == x) := by
      unfold keyO at h1
      split at h1
      · rename_i y t q
        cases h1
        rw [q]
        rfl
      · cases h1
    cases i with
    | zero =>
      simp only [List.getElem?_cons_zero, Option.some.injEq] at hx
      subst hx
      refine ⟨e, rfl, ?_⟩
      rw [List.find?_cons, hk, beq_self_eq_true]
    | succ i =>
      simp only [List.getElem?_cons_succ] at hx
      obtain ⟨e', q1, q2⟩ := find_at h2 (List.nodup_cons.mp nd).2 i x hx
      refine ⟨e', by rw [List.getElem?_cons_succ]; exact q1, ?_⟩
      have hn : k ≠ x := fun z => (List.nodup_cons.mp nd).1 (z ▸ List.mem_of_getElem? hx)
      rw [List.find?_cons, hk, beq_eq_false_iff_ne.mpr hn]
      exact q2
theorem find_no : ∀ {l : List DictEntry} {ks : List Str}, l.map keyO = ks.map some → ∀ (x : Str), x ∉ ks → l.find? (·.key.isStr x) = none ∧ l.any (·.refKey) = false
  | [], _, _, _, _ => ⟨rfl, rfl⟩
  | _ :: _, [], h, _, _ => by simp at h
  | e :: l, k :: ks, h, x, hx => by
    simp only [List.map_cons, List.cons.injEq] at h
    obtain ⟨h1, h2⟩ := h
    obtain ⟨q1, q2⟩ := find_no h2 x (fun z => hx (List.mem_cons_of_mem _ z))
    have hn : k ≠ x := fun z => hx (z ▸ List.mem_cons_self)
    unfold keyO at h1
    split at h1
    · rename_i y t q
      cases h1
      have hk : e.key.isStr x = (k == x) := by rw [q]; rfl
      have hr : e.refKey = false := by unfold DictEntry.refKey; rw [q]
      refine ⟨by rw [List.find?_cons, hk, beq_eq_false_iff_ne.mpr hn]; exact q1, by rw [List.any_cons, hr, q2]; rfl⟩
    · cases h1
/-- a text as a number -/
def code (x : Str) : Nat := x.cps.toList.foldl (fun n c => n * 2097152 + c) 1
theorem nodup_code : ∀ {l : List Str}, (l.map code).Nodup → l.Nodup
  | [], _ => List.nodup_nil
  | x :: l, h => by
    rw [List.map_cons, List.nodup_cons] at h
    exact List.nodup_cons.mpr ⟨fun z => h.1 (List.mem_map_of_mem z), nodup_code h.2⟩
theorem notin_code {l : List Str} {x : Str} (h : ((l.map code).contains (code x)) = false) : x ∉ l := fun z => by
  have : (l.map code).contains (code x) = true := List.contains_iff_mem.mpr (List.mem_map_of_mem z)
  rw [h] at this
  cases this
section
variable {h : Heap} {K : Fg} {mg : Str → Option Value} {ks : List Str}
theorem ns_at (hk : (gd K).map keyO = ks.map some) (nd : ks.Nodup) (i : Nat) {x : Str} (e : ks[i]? = some x) : PySem.W.nsIn K mainGlobals x = some (some (ge K i)) := by
  obtain ⟨en, q1, q2⟩ := find_at hk nd i x e
  have qe : ge K i = en.val := by unfold ge; rw [q1]
  rw [qe]
  unfold PySem.W.nsIn
  unfold gd at q1 q2
  split at q1
  · rename_i a1 a2 es a3 a4 q
    rw [q] at q2
    rw [q]
    dsimp only at q2 ⊢
    rw [q2]
  · cases q1
theorem ns_no (hk : (gd K).map keyO = ks.map some) {y : Str} (e : ks[0]? = some y) {x : Str} (hx : x ∉ ks) : PySem.W.nsIn K mainGlobals x = some none := by
  obtain ⟨q2, q3⟩ := find_no hk x hx
  have hne : gd K ≠ [] := fun z => by
    rw [z] at hk
    cases ks with
    | nil => cases e
    | cons a l => cases hk
  unfold PySem.W.nsIn
  unfold gd at q2 q3 hne
  split at q2
  · rename_i a1 a2 es a3 a4 q
    rw [q] at q3
    rw [q]
    dsimp only at q2 q3 ⊢
    rw [q2, q3]
    rfl
  · rename_i q
    exact absurd (by split <;> first | rfl | (rename_i z; exact absurd z (q _ _ _ _ _))) hne
theorem ref_at (hk : (gd K).map keyO = ks.map some) (nd : ks.Nodup) (i : Nat) {x : Str} (e : ks[i]? = some x) (b : refB i K = true) : PySem.W.nsIn K mainGlobals x = some (some (.ref (gi K i))) := by
  have r : ge K i = .ref (gi K i) := by
    unfold refB at b
    unfold gi
    split at b
    · rename_i q
      rw [q]
    · cases b
  rw [← r]
  exact ns_at hk nd i e
theorem refsB_go : ∀ {fl : List Bool} {es : List DictEntry}, refsB fl es = true → ∀ i : Nat, fl[i]? = some true → ∃ e, es[i]? = some e ∧ isRefE e = true
  | [], _, _, i, h => by simp at h
  | _ :: _, [], h, _, _ => by cases h
  | f :: fl, e :: es, h, i, hi => by
    obtain ⟨h1, h2⟩ := Bool.and_eq_true_iff.mp (show ((bif f then isRefE e else true) && refsB fl es) = true from h)
    cases i with
    | zero =>
      simp only [List.getElem?_cons_zero, Option.some.injEq] at hi
      subst hi
      exact ⟨e, rfl, h1⟩
    | succ i =>
      simp only [List.getElem?_cons_succ] at hi ⊢
      exact refsB_go h2 i hi
theorem refsB_at {fl : List Bool} (h : refsB fl (gd K) = true) (i : Nat) (e : fl[i]? = some true) : refB i K = true := by
  obtain ⟨en, q1, q2⟩ := refsB_go h i e
  unfold refB ge
  rw [q1]
  exact q2
theorem int_at (X : K.In h) (G : h.Ns mainGlobals mg) (hk : (gd K).map keyO = ks.map some) (nd : ks.Nodup) (i : Nat) {x : Str} {v : Int} (e : ks[i]? = some x) (b : intB i v K = true) : ∃ t, mg x = some (.int v t) := by
  have z := PySem.W.mg_of X G (ns_at hk nd i e)
  unfold intB at b
  split at b
  · rename_i n t q
    rw [q] at z
    rw [of_decide_eq_true b] at z
    exact ⟨t, z⟩
  · cases b
theorem str_at (X : K.In h) (G : h.Ns mainGlobals mg) (hk : (gd K).map keyO = ks.map some) (nd : ks.Nodup) (i : Nat) {x : Str} {v : Str} (e : ks[i]? = some x) (b : strO K i = some v) : ∃ t, mg x = some (.str v t) := by
  have z := PySem.W.mg_of X G (ns_at hk nd i e)
  unfold strO at b
  split at b
  · rename_i n t q
    rw [q] at z
    cases b
    exact ⟨t, z⟩
  · cases b
theorem ss_at {ss : List (Nat × Str)} (h : (ss.map fun p => strO K p.1) = ss.map fun p => some p.2) (j : Nat) {p : Nat × Str} (e : ss[j]? = some p) : strO K p.1 = some p.2 := by
  have z := congrArg (fun l => l[j]?) h
  simp only [List.getElem?_map, e, Option.map_some, Option.some.injEq] at z
  exact z
end
theorem clB_ok {h : Heap} {K : Fg} {mg : Str → Option Value} {n : Nat} {x : Str} (X : K.In h) (G : h.Ns mainGlobals mg) (a : PySem.W.nsIn K mainGlobals x = some (some (.ref (gi K n)))) (c : clB n K = true) : PkC K mg x (gi K n) := by
  unfold clB at c
  simp only [Bool.and_eq_true, decide_eq_true_eq] at c
  exact pkC x X G a c.1 c.2
section
variable {h : Heap} {K : Fg} {mg : Str → Option Value} {n W : Nat} {x : Str} {B newId : String} {bm : List Value}
theorem gvOf {initId : String} (X : K.In h) (G : h.Ns mainGlobals mg) (a : PySem.W.nsIn K mainGlobals x = some (some (.ref (gi K n)))) (eb : ExcBaseFacts B newId initId bm) (es : StoreFacts B bm "object.__setattr__" "object") (c : exB n W B newId bm ["given"] K = true) {ql : Str} {st : Stmt} {fd : FuncData}
    (F : Fun K "__init__" ql st (iniA n K) fd) {p0 p1 q0 q1 q2 q3 : Pos} (e1 : defArgs st = argsGv p0 p1) (e2 : FuncBody.stmts (defBody st) = .stmts (bodyGv q0 q1 q2 q3)) (e3 : defScope st = scopeGv) : PkGv K mg x (gi K n) (iniA n K) (gi K W) B newId initId bm := by
  unfold exB exB.exC at c
  simp only [Bool.and_eq_true, decide_eq_true_eq] at c
  obtain ⟨cl, mr, a1, a2, a3, a4, a5, a6, a7, a8, a9, a10, a11, a12, a13, a14, a15⟩ := c
  have cl' := cl
  unfold clB at cl'
  simp only [Bool.and_eq_true, decide_eq_true_eq] at cl'
  obtain ⟨cd, hc, hm⟩ := PySem.W.any_some mr
  obtain ⟨oc, od, kV, doc, pm, an, cdv, ct, osl, rfl, l, lc⟩ := F.ex
  have e2' := FuncBody.stmts.inj e2
  rw [e1, e2', e3] at l
  exact pkGv x B newId initId bm X G eb es a cl'.1 cl'.2 hc (of_decide_eq_true hm) a1 a2 a3 a4 a5 a6 a7 a8 a9 a10 (of_decide_eq_true (List.all_eq_true.mp a11 "given" (by simp))) l lc a12 a13 a14 a15
theorem ixOf {initId : String} (X : K.In h) (G : h.Ns mainGlobals mg) (a : PySem.W.nsIn K mainGlobals x = some (some (.ref (gi K n)))) (eb : ExcBaseFacts B newId initId bm) (es : StoreFacts B bm "object.__setattr__" "object") (c : exB n W B newId bm ["index"] K = true) {ql : Str} {st : Stmt} {fd : FuncData}
    (F : Fun K "__init__" ql st (iniA n K) fd) {p0 p1 q0 q1 q2 q3 : Pos} (e1 : defArgs st = argsIx p0 p1) (e2 : FuncBody.stmts (defBody st) = .stmts (bodyIx q0 q1 q2 q3)) (e3 : defScope st = scopeIx) : PkIx K mg x (gi K n) (iniA n K) (gi K W) B newId initId bm := by
  unfold exB exB.exC at c
  simp only [Bool.and_eq_true, decide_eq_true_eq] at c
  obtain ⟨cl, mr, a1, a2, a3, a4, a5, a6, a7, a8, a9, a10, a11, a12, a13, a14, a15⟩ := c
  have cl' := cl
  unfold clB at cl'
  simp only [Bool.and_eq_true, decide_eq_true_eq] at cl'
  obtain ⟨cd, hc, hm⟩ := PySem.W.any_some mr
  obtain ⟨oc, od, kV, doc, pm, an, cdv, ct, osl, rfl, l, lc⟩ := F.ex
  have e2' := FuncBody.stmts.inj e2
  rw [e1, e2', e3] at l
  exact pkIx x B newId initId bm X G eb es a cl'.1 cl'.2 hc (of_decide_eq_true hm) a1 a2 a3 a4 a5 a6 a7 a8 a9 a10 (of_decide_eq_true (List.all_eq_true.mp a11 "index" (by simp))) l lc a12 a13 a14 a15
theorem ownB_ok {fl : List Str} (X : K.In h) (G : h.Ns mainGlobals mg) (a : PySem.W.nsIn K mainGlobals x = some (some (.ref (gi K n)))) (c : ownB n fl K = true) : PkC K mg x (gi K n) ∧ Cls K (gi K n) ∧ (∀ f ∈ fl, NoAttr K (gi K n) f) ∧ Mk K (gi K n) (iniA n K) := by
  unfold ownB at c
  simp only [Bool.and_eq_true, decide_eq_true_eq] at c
  obtain ⟨cl, a1, a2, a3, a4, a5, a6, a7, a8, a9⟩ := c
  exact ⟨clB_ok X G a cl, ⟨a1, a2, a3, a4⟩, fun f hf => (of_decide_eq_true (List.all_eq_true.mp a5 f hf) : PySem.W.findIn K (.ref (gi K n)) f = some none), ⟨a6, a7, a8, a9⟩⟩
theorem gtOf {f ql : Str} {st : Stmt} {fd : FuncData} (c : prB n f K = true) (F : Fun K f ql st (gtA n f K) fd) (hb : Binds K fd ["self"] []) : PropOf K (gi K n) f (prA n f K) (gtA n f K) := by
  unfold prB at c
  simp only [Bool.and_eq_true, decide_eq_true_eq] at c
  obtain ⟨a1, a2, a3, a4⟩ := c
  refine ⟨a1, a2, a3, ?_⟩
  cases q : PySem.W.recIn K (prA n f K) "property" with
  | none => rw [q] at a4; cases a4
  | some l =>
    rw [q] at a4
    cases l with
    | nil => cases a4
    | cons v r =>
      cases v with
      | ref g =>
        have : gtA n f K = g := by unfold gtA; rw [q]
        rw [this]
        exact ⟨r, rfl⟩
      | _ => cases a4
end
theorem all_at {α : Type} {p : α → Bool} {l : List α} (h : l.all p = true) (i : Nat) {x : α} (e : l[i]? = some x) : p x = true := List.all_eq_true.mp h x (List.mem_of_getElem? e)
theorem cd_of {K : Fg} {x ql : Str} {st : Stmt} {f : Addr} {fd : FuncData} (F : Fun K x ql st f fd) : fd.code = .ref (cdOf K f) := by
  obtain ⟨oc, od, kV, doc, pm, an, cdv, ct, osl, rfl, l, lc⟩ := F.ex
  obtain ⟨c, rfl⟩ := He.codeIn_ref lc
  have e : fdAt K f = some (PySem.W.fnOf x ql (defArgs st) (defBody st) (defScope st) .none kV doc pm an (.ref c) ct) := by
    unfold fdAt
    rw [l]
  unfold cdOf
  rw [e]
/-- the law's end over a head by truths -/
theorem walkO {l : PySem.W.OpenLaw} {n k : Nat} {q : Program} {loose : List Str} {XP : (Str → Option Value) → Heap → Prop} {YP : World → Heap → Prop} {d : DefRec} {x : Str}
    (hn : l.most = some n) (hn2 : n ≤ sizeLine) (hdf : d.params.defaults = []) (hr : Room k callerA)
    (F : ∀ (w : World) (mg : Str → Option Value) (fa : Addr) (h : Heap), YP w h → h.Ns mainGlobals mg → mg d.name = some (.ref fa) →
      ∃ K : Fg, K.In h ∧ ∃ (fd : FuncData) (sp : Sp), (∀ (s : Shared) (u : Value), BindsTo s fd ⟨[u], []⟩ [(x, u)]) ∧
        (∀ (H : Hp) (a : Addr) (ns : List Int), ns.length ≤ n → SqL K H a (ns.map V.int) → sp [.ref a] H (fun v _ => v = .bl true) fun _ _ _ => False) ∧
        ∀ base : Heap, K.In base → base.Ns mainGlobals mg → FnOk l.prog w K mg base CX0 k fa fd [x] sp) :
    PySem.W.WalkO q loose XP YP l.row.toRowW d [] (fun f vs => PySem.call f vs) := by
  refine Att.attach_callB hn hdf fun w s0 s1 mg mb fa o pm cd doc a vs ns G Y ho hd hcd hmg hobj hints hlen hbits hg => ?_
  obtain ⟨K, KX, fd, sp, hb, hsp, hF⟩ := F w mg fa _ Y G.T.g hmg
  exact law_call KX G.T.g G.T.b G.T.builtins G.T.nolimit hg hobj hints (Nat.le_trans hlen hn2) hr hF hb (fun H hO hS => hsp H a ns hlen hS) fun H e s' h => h
end L2.HM

set_option Elab.async false
set_option linter.all false
set_option maxRecDepth 100000
set_option maxHeartbeats 0
namespace L2.HE6
open PySem PySem.W PyProof.Rows L2 L2.HM
theorem ksnd : ksl.Nodup := nodup_code (by decide +kernel)
theorem fin {w : World} {mg : PySem.Str → Option Value} {fa : Addr} {h : Heap} {K : Fg} (c : L2.HM.Says L2.HE6.wn w h K) (G : h.Ns mainGlobals mg) (hmg : mg ("law" : PySem.Str) = some (.ref fa)) {prog : Program} :
    ∃ K : Fg, K.In h ∧ ∃ (fd : FuncData) (sp : Sp), (∀ (s : Shared) (u : Value), BindsTo s fd ⟨[u], []⟩ [("_law_script", u)]) ∧
        (∀ (H : Hp) (a : Addr) (ns : List Int), ns.length ≤ 63 → SqL K H a (ns.map V.int) → sp [.ref a] H (fun v _ => v = .bl true) fun _ _ _ => False) ∧
        ∀ base : Heap, K.In base → base.Ns mainGlobals mg → FnOk prog w K mg base CX0 9 fa fd ["_law_script"] sp := by
  have KX := c.inn
  have cx : (L2.HE6.exl.all fun f => f K) = true := c.ex
  have ck : (L2.HM.gd K).map L2.HM.keyO = L2.HE6.ksl.map some := c.ks
  have cs : (L2.HE6.ssl.map fun p => L2.HM.strO K p.1) = L2.HE6.ssl.map fun p => some p.2 := c.ss
  have cr : L2.HM.refsB L2.HE6.flags (L2.HM.gd K) = true := L2.HM.all_at cx 0 (by rfl)
  have n_InvalidNumber : PySem.W.nsIn K mainGlobals "InvalidNumber" = some (some (.ref (gi K 53))) := L2.HM.ref_at ck L2.HE6.ksnd 53 (by rfl) (L2.HM.refsB_at cr 53 (by rfl))
  have n_InvalidStands : PySem.W.nsIn K mainGlobals "InvalidStands" = some (some (.ref (gi K 60))) := L2.HM.ref_at ck L2.HE6.ksnd 60 (by rfl) (L2.HM.refsB_at cr 60 (by rfl))
  have n_InvalidKeys : PySem.W.nsIn K mainGlobals "InvalidKeys" = some (some (.ref (gi K 61))) := L2.HM.ref_at ck L2.HE6.ksnd 61 (by rfl) (L2.HM.refsB_at cr 61 (by rfl))
  have n_InvalidRows : PySem.W.nsIn K mainGlobals "InvalidRows" = some (some (.ref (gi K 62))) := L2.HM.ref_at ck L2.HE6.ksnd 62 (by rfl) (L2.HM.refsB_at cr 62 (by rfl))
  have n_UnknownName : PySem.W.nsIn K mainGlobals "UnknownName" = some (some (.ref (gi K 64))) := L2.HM.ref_at ck L2.HE6.ksnd 64 (by rfl) (L2.HM.refsB_at cr 64 (by rfl))
  have n_WrongState : PySem.W.nsIn K mainGlobals "WrongState" = some (some (.ref (gi K 51))) := L2.HM.ref_at ck L2.HE6.ksnd 51 (by rfl) (L2.HM.refsB_at cr 51 (by rfl))
  have n_WrongValue : PySem.W.nsIn K mainGlobals "WrongValue" = some (some (.ref (gi K 50))) := L2.HM.ref_at ck L2.HE6.ksnd 50 (by rfl) (L2.HM.refsB_at cr 50 (by rfl))
  have n_NoAnswer : PySem.W.nsIn K mainGlobals "NoAnswer" = some (some (.ref (gi K 52))) := L2.HM.ref_at ck L2.HE6.ksnd 52 (by rfl) (L2.HM.refsB_at cr 52 (by rfl))
  have n_InvalidIndex : PySem.W.nsIn K mainGlobals "InvalidIndex" = some (some (.ref (gi K 57))) := L2.HM.ref_at ck L2.HE6.ksnd 57 (by rfl) (L2.HM.refsB_at cr 57 (by rfl))
  have n_House : PySem.W.nsIn K mainGlobals "House" = some (some (.ref (gi K 69))) := L2.HM.ref_at ck L2.HE6.ksnd 69 (by rfl) (L2.HM.refsB_at cr 69 (by rfl))
  have n_Page : PySem.W.nsIn K mainGlobals "Page" = some (some (.ref (gi K 177))) := L2.HM.ref_at ck L2.HE6.ksnd 177 (by rfl) (L2.HM.refsB_at cr 177 (by rfl))
  have n_Book : PySem.W.nsIn K mainGlobals "Book" = some (some (.ref (gi K 178))) := L2.HM.ref_at ck L2.HE6.ksnd 178 (by rfl) (L2.HM.refsB_at cr 178 (by rfl))
  have n_Asked : PySem.W.nsIn K mainGlobals "Asked" = some (some (.ref (gi K 176))) := L2.HM.ref_at ck L2.HE6.ksnd 176 (by rfl) (L2.HM.refsB_at cr 176 (by rfl))
  obtain ⟨fdLawPurse, FLawPurse⟩ := c.fn 0 (by rfl)
  have n__law_purse : PySem.W.nsIn K mainGlobals "_law_purse" = some (some (.ref (gi K 182))) := L2.HM.ref_at ck L2.HE6.ksnd 182 (by rfl) (L2.HM.refsB_at cr 182 (by rfl))
  have gLawPurse : mg "_law_purse" = some (.ref (gi K 182)) := PySem.W.mg_of KX G n__law_purse
  obtain ⟨fdLawDraw, FLawDraw⟩ := c.fn 1 (by rfl)
  have n__law_draw : PySem.W.nsIn K mainGlobals "_law_draw" = some (some (.ref (gi K 183))) := L2.HM.ref_at ck L2.HE6.ksnd 183 (by rfl) (L2.HM.refsB_at cr 183 (by rfl))
  have gLawDraw : mg "_law_draw" = some (.ref (gi K 183)) := PySem.W.mg_of KX G n__law_draw
  obtain ⟨fdLawPick, FLawPick⟩ := c.fn 2 (by rfl)
  have n__law_pick : PySem.W.nsIn K mainGlobals "_law_pick" = some (some (.ref (gi K 184))) := L2.HM.ref_at ck L2.HE6.ksnd 184 (by rfl) (L2.HM.refsB_at cr 184 (by rfl))
  have gLawPick : mg "_law_pick" = some (.ref (gi K 184)) := PySem.W.mg_of KX G n__law_pick
  obtain ⟨fdLawCalled, FLawCalled⟩ := c.fn 3 (by rfl)
  have n__law_called : PySem.W.nsIn K mainGlobals "_law_called" = some (some (.ref (gi K 185))) := L2.HM.ref_at ck L2.HE6.ksnd 185 (by rfl) (L2.HM.refsB_at cr 185 (by rfl))
  have gLawCalled : mg "_law_called" = some (.ref (gi K 185)) := PySem.W.mg_of KX G n__law_called
  obtain ⟨fdLawKept, FLawKept⟩ := c.fn 4 (by rfl)
  have n__law_kept : PySem.W.nsIn K mainGlobals "_law_kept" = some (some (.ref (gi K 186))) := L2.HM.ref_at ck L2.HE6.ksnd 186 (by rfl) (L2.HM.refsB_at cr 186 (by rfl))
  have gLawKept : mg "_law_kept" = some (.ref (gi K 186)) := PySem.W.mg_of KX G n__law_kept
  obtain ⟨fdLawStrange, FLawStrange⟩ := c.fn 5 (by rfl)
  have n__law_strange : PySem.W.nsIn K mainGlobals "_law_strange" = some (some (.ref (gi K 187))) := L2.HM.ref_at ck L2.HE6.ksnd 187 (by rfl) (L2.HM.refsB_at cr 187 (by rfl))
  have gLawStrange : mg "_law_strange" = some (.ref (gi K 187)) := PySem.W.mg_of KX G n__law_strange
  obtain ⟨fdLaw, FLaw⟩ := c.fn 6 (by rfl)
  have n_law : PySem.W.nsIn K mainGlobals "law" = some (some (.ref (gi K 188))) := L2.HM.ref_at ck L2.HE6.ksnd 188 (by rfl) (L2.HM.refsB_at cr 188 (by rfl))
  have gLaw : mg "law" = some (.ref (gi K 188)) := PySem.W.mg_of KX G n_law
  obtain ⟨fdIsName, FIsName⟩ := c.fn 7 (by rfl)
  have n_is_name : PySem.W.nsIn K mainGlobals "is_name" = some (some (.ref (gi K 179))) := L2.HM.ref_at ck L2.HE6.ksnd 179 (by rfl) (L2.HM.refsB_at cr 179 (by rfl))
  have gIsName : mg "is_name" = some (.ref (gi K 179)) := PySem.W.mg_of KX G n_is_name
  obtain ⟨fdCheckHouse, FCheckHouse⟩ := c.fn 8 (by rfl)
  have n_check_house : PySem.W.nsIn K mainGlobals "check_house" = some (some (.ref (gi K 76))) := L2.HM.ref_at ck L2.HE6.ksnd 76 (by rfl) (L2.HM.refsB_at cr 76 (by rfl))
  have gCheckHouse : mg "check_house" = some (.ref (gi K 76)) := PySem.W.mg_of KX G n_check_house
  obtain ⟨fdCheckWishes, FCheckWishes⟩ := c.fn 9 (by rfl)
  have n_check_wishes : PySem.W.nsIn K mainGlobals "check_wishes" = some (some (.ref (gi K 181))) := L2.HM.ref_at ck L2.HE6.ksnd 181 (by rfl) (L2.HM.refsB_at cr 181 (by rfl))
  have gCheckWishes : mg "check_wishes" = some (.ref (gi K 181)) := PySem.W.mg_of KX G n_check_wishes
  obtain ⟨fdIsInteger, FIsInteger⟩ := c.fn 10 (by rfl)
  have n_is_integer : PySem.W.nsIn K mainGlobals "is_integer" = some (some (.ref (gi K 30))) := L2.HM.ref_at ck L2.HE6.ksnd 30 (by rfl) (L2.HM.refsB_at cr 30 (by rfl))
  have gIsInteger : mg "is_integer" = some (.ref (gi K 30)) := PySem.W.mg_of KX G n_is_integer
  obtain ⟨fdIsBetween, FIsBetween⟩ := c.fn 11 (by rfl)
  have n_is_between : PySem.W.nsIn K mainGlobals "is_between" = some (some (.ref (gi K 31))) := L2.HM.ref_at ck L2.HE6.ksnd 31 (by rfl) (L2.HM.refsB_at cr 31 (by rfl))
  have gIsBetween : mg "is_between" = some (.ref (gi K 31)) := PySem.W.mg_of KX G n_is_between
  obtain ⟨fdIsWord, FIsWord⟩ := c.fn 12 (by rfl)
  have n_is_word : PySem.W.nsIn K mainGlobals "is_word" = some (some (.ref (gi K 32))) := L2.HM.ref_at ck L2.HE6.ksnd 32 (by rfl) (L2.HM.refsB_at cr 32 (by rfl))
  have gIsWord : mg "is_word" = some (.ref (gi K 32)) := PySem.W.mg_of KX G n_is_word
  obtain ⟨fdIsStand, FIsStand⟩ := c.fn 13 (by rfl)
  have n_is_stand : PySem.W.nsIn K mainGlobals "is_stand" = some (some (.ref (gi K 33))) := L2.HM.ref_at ck L2.HE6.ksnd 33 (by rfl) (L2.HM.refsB_at cr 33 (by rfl))
  have gIsStand : mg "is_stand" = some (.ref (gi K 33)) := PySem.W.mg_of KX G n_is_stand
  obtain ⟨fdWrongStand, FWrongStand⟩ := c.fn 14 (by rfl)
  have n_wrong_stand : PySem.W.nsIn K mainGlobals "wrong_stand" = some (some (.ref (gi K 34))) := L2.HM.ref_at ck L2.HE6.ksnd 34 (by rfl) (L2.HM.refsB_at cr 34 (by rfl))
  have gWrongStand : mg "wrong_stand" = some (.ref (gi K 34)) := PySem.W.mg_of KX G n_wrong_stand
  obtain ⟨fdStandWords, FStandWords⟩ := c.fn 15 (by rfl)
  have n_stand_words : PySem.W.nsIn K mainGlobals "stand_words" = some (some (.ref (gi K 35))) := L2.HM.ref_at ck L2.HE6.ksnd 35 (by rfl) (L2.HM.refsB_at cr 35 (by rfl))
  have gStandWords : mg "stand_words" = some (.ref (gi K 35)) := PySem.W.mg_of KX G n_stand_words
  obtain ⟨fdWrongKey, FWrongKey⟩ := c.fn 16 (by rfl)
  have n_wrong_key : PySem.W.nsIn K mainGlobals "wrong_key" = some (some (.ref (gi K 36))) := L2.HM.ref_at ck L2.HE6.ksnd 36 (by rfl) (L2.HM.refsB_at cr 36 (by rfl))
  have gWrongKey : mg "wrong_key" = some (.ref (gi K 36)) := PySem.W.mg_of KX G n_wrong_key
  obtain ⟨fdWrongRow, FWrongRow⟩ := c.fn 17 (by rfl)
  have n_wrong_row : PySem.W.nsIn K mainGlobals "wrong_row" = some (some (.ref (gi K 37))) := L2.HM.ref_at ck L2.HE6.ksnd 37 (by rfl) (L2.HM.refsB_at cr 37 (by rfl))
  have gWrongRow : mg "wrong_row" = some (.ref (gi K 37)) := PySem.W.mg_of KX G n_wrong_row
  obtain ⟨fdIsRow, FIsRow⟩ := c.fn 18 (by rfl)
  have n_is_row : PySem.W.nsIn K mainGlobals "is_row" = some (some (.ref (gi K 38))) := L2.HM.ref_at ck L2.HE6.ksnd 38 (by rfl) (L2.HM.refsB_at cr 38 (by rfl))
  have gIsRow : mg "is_row" = some (.ref (gi K 38)) := PySem.W.mg_of KX G n_is_row
  obtain ⟨fdRowParts, FRowParts⟩ := c.fn 19 (by rfl)
  have n_row_parts : PySem.W.nsIn K mainGlobals "row_parts" = some (some (.ref (gi K 39))) := L2.HM.ref_at ck L2.HE6.ksnd 39 (by rfl) (L2.HM.refsB_at cr 39 (by rfl))
  have gRowParts : mg "row_parts" = some (.ref (gi K 39)) := PySem.W.mg_of KX G n_row_parts
  obtain ⟨fdIsOccasion, FIsOccasion⟩ := c.fn 20 (by rfl)
  have n_is_occasion : PySem.W.nsIn K mainGlobals "is_occasion" = some (some (.ref (gi K 40))) := L2.HM.ref_at ck L2.HE6.ksnd 40 (by rfl) (L2.HM.refsB_at cr 40 (by rfl))
  have gIsOccasion : mg "is_occasion" = some (.ref (gi K 40)) := PySem.W.mg_of KX G n_is_occasion
  obtain ⟨fdIsCondition, FIsCondition⟩ := c.fn 21 (by rfl)
  have n_is_condition : PySem.W.nsIn K mainGlobals "is_condition" = some (some (.ref (gi K 41))) := L2.HM.ref_at ck L2.HE6.ksnd 41 (by rfl) (L2.HM.refsB_at cr 41 (by rfl))
  have gIsCondition : mg "is_condition" = some (.ref (gi K 41)) := PySem.W.mg_of KX G n_is_condition
  obtain ⟨fdConditionParts, FConditionParts⟩ := c.fn 22 (by rfl)
  have n_condition_parts : PySem.W.nsIn K mainGlobals "condition_parts" = some (some (.ref (gi K 42))) := L2.HM.ref_at ck L2.HE6.ksnd 42 (by rfl) (L2.HM.refsB_at cr 42 (by rfl))
  have gConditionParts : mg "condition_parts" = some (.ref (gi K 42)) := PySem.W.mg_of KX G n_condition_parts
  obtain ⟨fdIsLineCondition, FIsLineCondition⟩ := c.fn 23 (by rfl)
  have n_is_line_condition : PySem.W.nsIn K mainGlobals "is_line_condition" = some (some (.ref (gi K 43))) := L2.HM.ref_at ck L2.HE6.ksnd 43 (by rfl) (L2.HM.refsB_at cr 43 (by rfl))
  have gIsLineCondition : mg "is_line_condition" = some (.ref (gi K 43)) := PySem.W.mg_of KX G n_is_line_condition
  obtain ⟨fdIsDeed, FIsDeed⟩ := c.fn 24 (by rfl)
  have n_is_deed : PySem.W.nsIn K mainGlobals "is_deed" = some (some (.ref (gi K 46))) := L2.HM.ref_at ck L2.HE6.ksnd 46 (by rfl) (L2.HM.refsB_at cr 46 (by rfl))
  have gIsDeed : mg "is_deed" = some (.ref (gi K 46)) := PySem.W.mg_of KX G n_is_deed
  obtain ⟨fdHasPhone, FHasPhone⟩ := c.fn 25 (by rfl)
  have n_has_phone : PySem.W.nsIn K mainGlobals "has_phone" = some (some (.ref (gi K 47))) := L2.HM.ref_at ck L2.HE6.ksnd 47 (by rfl) (L2.HM.refsB_at cr 47 (by rfl))
  have gHasPhone : mg "has_phone" = some (.ref (gi K 47)) := PySem.W.mg_of KX G n_has_phone
  obtain ⟨fdHasKey, FHasKey⟩ := c.fn 26 (by rfl)
  have n_has_key : PySem.W.nsIn K mainGlobals "has_key" = some (some (.ref (gi K 48))) := L2.HM.ref_at ck L2.HE6.ksnd 48 (by rfl) (L2.HM.refsB_at cr 48 (by rfl))
  have gHasKey : mg "has_key" = some (.ref (gi K 48)) := PySem.W.mg_of KX G n_has_key
  obtain ⟨fdNamesOne, FNamesOne⟩ := c.fn 27 (by rfl)
  have n_names_one : PySem.W.nsIn K mainGlobals "names_one" = some (some (.ref (gi K 49))) := L2.HM.ref_at ck L2.HE6.ksnd 49 (by rfl) (L2.HM.refsB_at cr 49 (by rfl))
  have gNamesOne : mg "names_one" = some (.ref (gi K 49)) := PySem.W.mg_of KX G n_names_one
  obtain ⟨fdCheckStands, FCheckStands⟩ := c.fn 28 (by rfl)
  have n_check_stands : PySem.W.nsIn K mainGlobals "check_stands" = some (some (.ref (gi K 70))) := L2.HM.ref_at ck L2.HE6.ksnd 70 (by rfl) (L2.HM.refsB_at cr 70 (by rfl))
  have gCheckStands : mg "check_stands" = some (.ref (gi K 70)) := PySem.W.mg_of KX G n_check_stands
  obtain ⟨fdCheckKeys, FCheckKeys⟩ := c.fn 29 (by rfl)
  have n_check_keys : PySem.W.nsIn K mainGlobals "check_keys" = some (some (.ref (gi K 71))) := L2.HM.ref_at ck L2.HE6.ksnd 71 (by rfl) (L2.HM.refsB_at cr 71 (by rfl))
  have gCheckKeys : mg "check_keys" = some (.ref (gi K 71)) := PySem.W.mg_of KX G n_check_keys
  obtain ⟨fdCheckRows, FCheckRows⟩ := c.fn 30 (by rfl)
  have n_check_rows : PySem.W.nsIn K mainGlobals "check_rows" = some (some (.ref (gi K 72))) := L2.HM.ref_at ck L2.HE6.ksnd 72 (by rfl) (L2.HM.refsB_at cr 72 (by rfl))
  have gCheckRows : mg "check_rows" = some (.ref (gi K 72)) := PySem.W.mg_of KX G n_check_rows
  obtain ⟨fdHouseText, FHouseText⟩ := c.fn 31 (by rfl)
  have n_house_text : PySem.W.nsIn K mainGlobals "house_text" = some (some (.ref (gi K 73))) := L2.HM.ref_at ck L2.HE6.ksnd 73 (by rfl) (L2.HM.refsB_at cr 73 (by rfl))
  have gHouseText : mg "house_text" = some (.ref (gi K 73)) := PySem.W.mg_of KX G n_house_text
  have b_len : mg "len" = none := PySem.W.mg_none_of KX G (L2.HM.ns_no ck (y := "__name__") (by rfl) (L2.HM.notin_code (by decide +kernel)))
  have b_isinstance : mg "isinstance" = none := PySem.W.mg_none_of KX G (L2.HM.ns_no ck (y := "__name__") (by rfl) (L2.HM.notin_code (by decide +kernel)))
  have b_int : mg "int" = none := PySem.W.mg_none_of KX G (L2.HM.ns_no ck (y := "__name__") (by rfl) (L2.HM.notin_code (by decide +kernel)))
  have b_bool : mg "bool" = none := PySem.W.mg_none_of KX G (L2.HM.ns_no ck (y := "__name__") (by rfl) (L2.HM.notin_code (by decide +kernel)))
  have b_str : mg "str" = none := PySem.W.mg_none_of KX G (L2.HM.ns_no ck (y := "__name__") (by rfl) (L2.HM.notin_code (by decide +kernel)))
  have b_tuple : mg "tuple" = none := PySem.W.mg_none_of KX G (L2.HM.ns_no ck (y := "__name__") (by rfl) (L2.HM.notin_code (by decide +kernel)))
  have b_all : mg "all" = none := PySem.W.mg_none_of KX G (L2.HM.ns_no ck (y := "__name__") (by rfl) (L2.HM.notin_code (by decide +kernel)))
  have b_enumerate : mg "enumerate" = none := PySem.W.mg_none_of KX G (L2.HM.ns_no ck (y := "__name__") (by rfl) (L2.HM.notin_code (by decide +kernel)))
  have b_range : mg "range" = none := PySem.W.mg_none_of KX G (L2.HM.ns_no ck (y := "__name__") (by rfl) (L2.HM.notin_code (by decide +kernel)))
  have b_abs : mg "abs" = none := PySem.W.mg_none_of KX G (L2.HM.ns_no ck (y := "__name__") (by rfl) (L2.HM.notin_code (by decide +kernel)))
  have b_list : mg "list" = none := PySem.W.mg_none_of KX G (L2.HM.ns_no ck (y := "__name__") (by rfl) (L2.HM.notin_code (by decide +kernel)))
  have b_sorted : mg "sorted" = none := PySem.W.mg_none_of KX G (L2.HM.ns_no ck (y := "__name__") (by rfl) (L2.HM.notin_code (by decide +kernel)))
  have b_dict : mg "dict" = none := PySem.W.mg_none_of KX G (L2.HM.ns_no ck (y := "__name__") (by rfl) (L2.HM.notin_code (by decide +kernel)))
  obtain ⟨tMostConditions, mMostConditions⟩ := L2.HM.int_at (x := "MOST_CONDITIONS") (v := 4) KX G ck L2.HE6.ksnd 14 (by rfl) (L2.HM.all_at cx 1 (by rfl))
  obtain ⟨tMostDeeds, mMostDeeds⟩ := L2.HM.int_at (x := "MOST_DEEDS") (v := 4) KX G ck L2.HE6.ksnd 15 (by rfl) (L2.HM.all_at cx 2 (by rfl))
  obtain ⟨tLongestWord, mLongestWord⟩ := L2.HM.int_at (x := "LONGEST_WORD") (v := 8) KX G ck L2.HE6.ksnd 17 (by rfl) (L2.HM.all_at cx 3 (by rfl))
  obtain ⟨tMostLines, mMostLines⟩ := L2.HM.int_at (x := "MOST_LINES") (v := 3) KX G ck L2.HE6.ksnd 10 (by rfl) (L2.HM.all_at cx 4 (by rfl))
  obtain ⟨tMostStands, mMostStands⟩ := L2.HM.int_at (x := "MOST_STANDS") (v := 6) KX G ck L2.HE6.ksnd 11 (by rfl) (L2.HM.all_at cx 5 (by rfl))
  obtain ⟨tMostKeys, mMostKeys⟩ := L2.HM.int_at (x := "MOST_KEYS") (v := 3) KX G ck L2.HE6.ksnd 12 (by rfl) (L2.HM.all_at cx 6 (by rfl))
  obtain ⟨tMostRows, mMostRows⟩ := L2.HM.int_at (x := "MOST_ROWS") (v := 16) KX G ck L2.HE6.ksnd 13 (by rfl) (L2.HM.all_at cx 7 (by rfl))
  obtain ⟨tFewestStands, mFewestStands⟩ := L2.HM.int_at (x := "FEWEST_STANDS") (v := 2) KX G ck L2.HE6.ksnd 68 (by rfl) (L2.HM.all_at cx 8 (by rfl))
  obtain ⟨tKeyOpening, mKeyOpening⟩ := L2.HM.str_at (x := "KEY_OPENING") (v := "key ") KX G ck L2.HE6.ksnd 21 (by rfl) (L2.HM.ss_at cs 0 (p := (21, "key ")) (by rfl))
  obtain ⟨tStandConditionOpening, mStandConditionOpening⟩ := L2.HM.str_at (x := "STAND_CONDITION_OPENING") (v := "in ") KX G ck L2.HE6.ksnd 25 (by rfl) (L2.HM.ss_at cs 1 (p := (25, "in ")) (by rfl))
  obtain ⟨tStandDeedOpening, mStandDeedOpening⟩ := L2.HM.str_at (x := "STAND_DEED_OPENING") (v := "stand ") KX G ck L2.HE6.ksnd 29 (by rfl) (L2.HM.ss_at cs 2 (p := (29, "stand ")) (by rfl))
  have n_PARTING_WORDS : PySem.W.nsIn K mainGlobals "PARTING_WORDS" = some (some (.ref (gi K 18))) := L2.HM.ref_at ck L2.HE6.ksnd 18 (by rfl) (L2.HM.refsB_at cr 18 (by rfl))
  have mPartingWords : mg "PARTING_WORDS" = some (.ref (gi K 18)) := PySem.W.mg_of KX G n_PARTING_WORDS
  have wPartingWords := L2.HM.tpB_ok (a := fun K => gi K 18) (ws := L2.KC.wPartingWords) (by decide) (L2.HM.all_at cx 14 (by rfl))
  have n_HEARD_WORDS : PySem.W.nsIn K mainGlobals "HEARD_WORDS" = some (some (.ref (gi K 19))) := L2.HM.ref_at ck L2.HE6.ksnd 19 (by rfl) (L2.HM.refsB_at cr 19 (by rfl))
  have mHeardWords : mg "HEARD_WORDS" = some (.ref (gi K 19)) := PySem.W.mg_of KX G n_HEARD_WORDS
  have wHeardWords := L2.HM.tpB_ok (a := fun K => gi K 19) (ws := L2.KC.wHeardWords) (by decide) (L2.HM.all_at cx 15 (by rfl))
  have n_PLAIN_OCCASIONS : PySem.W.nsIn K mainGlobals "PLAIN_OCCASIONS" = some (some (.ref (gi K 20))) := L2.HM.ref_at ck L2.HE6.ksnd 20 (by rfl) (L2.HM.refsB_at cr 20 (by rfl))
  have mPlainOccasions : mg "PLAIN_OCCASIONS" = some (.ref (gi K 20)) := PySem.W.mg_of KX G n_PLAIN_OCCASIONS
  have wPlainOccasions := L2.HM.tpB_ok (a := fun K => gi K 20) (ws := L2.KC.wPlainOccasions) (by decide) (L2.HM.all_at cx 16 (by rfl))
  have n_LINE_CONDITIONS : PySem.W.nsIn K mainGlobals "LINE_CONDITIONS" = some (some (.ref (gi K 22))) := L2.HM.ref_at ck L2.HE6.ksnd 22 (by rfl) (L2.HM.refsB_at cr 22 (by rfl))
  have mLineConditions : mg "LINE_CONDITIONS" = some (.ref (gi K 22)) := PySem.W.mg_of KX G n_LINE_CONDITIONS
  have wLineConditions := L2.HM.tpB_ok (a := fun K => gi K 22) (ws := L2.KC.wLineConditions) (by decide) (L2.HM.all_at cx 17 (by rfl))
  have n_PHONE_CONDITIONS : PySem.W.nsIn K mainGlobals "PHONE_CONDITIONS" = some (some (.ref (gi K 24))) := L2.HM.ref_at ck L2.HE6.ksnd 24 (by rfl) (L2.HM.refsB_at cr 24 (by rfl))
  have mPhoneConditions : mg "PHONE_CONDITIONS" = some (.ref (gi K 24)) := PySem.W.mg_of KX G n_PHONE_CONDITIONS
  have wPhoneConditions := L2.HM.tpB_ok (a := fun K => gi K 24) (ws := L2.KC.wPhoneConditions) (by decide) (L2.HM.all_at cx 18 (by rfl))
  have n_LINE_DEEDS : PySem.W.nsIn K mainGlobals "LINE_DEEDS" = some (some (.ref (gi K 26))) := L2.HM.ref_at ck L2.HE6.ksnd 26 (by rfl) (L2.HM.refsB_at cr 26 (by rfl))
  have mLineDeeds : mg "LINE_DEEDS" = some (.ref (gi K 26)) := PySem.W.mg_of KX G n_LINE_DEEDS
  have wLineDeeds := L2.HM.tpB_ok (a := fun K => gi K 26) (ws := L2.KC.wLineDeeds) (by decide) (L2.HM.all_at cx 19 (by rfl))
  have n_PHONE_DEEDS : PySem.W.nsIn K mainGlobals "PHONE_DEEDS" = some (some (.ref (gi K 27))) := L2.HM.ref_at ck L2.HE6.ksnd 27 (by rfl) (L2.HM.refsB_at cr 27 (by rfl))
  have mPhoneDeeds : mg "PHONE_DEEDS" = some (.ref (gi K 27)) := PySem.W.mg_of KX G n_PHONE_DEEDS
  have wPhoneDeeds := L2.HM.tpB_ok (a := fun K => gi K 27) (ws := L2.KC.wPhoneDeeds) (by decide) (L2.HM.all_at cx 20 (by rfl))
  have n_KEY_DEEDS : PySem.W.nsIn K mainGlobals "KEY_DEEDS" = some (some (.ref (gi K 28))) := L2.HM.ref_at ck L2.HE6.ksnd 28 (by rfl) (L2.HM.refsB_at cr 28 (by rfl))
  have mKeyDeeds : mg "KEY_DEEDS" = some (.ref (gi K 28)) := PySem.W.mg_of KX G n_KEY_DEEDS
  have wKeyDeeds := L2.HM.tpB_ok (a := fun K => gi K 28) (ws := L2.KC.wKeyDeeds) (by decide) (L2.HM.all_at cx 21 (by rfl))
  obtain ⟨fdiInvalidNumber, FiInvalidNumber⟩ := c.fn 32 (by rfl)
  have c_InvalidNumber := L2.HM.gvOf (n := 53) (W := 50) (x := "InvalidNumber") (B := "ValueError") (newId := "ValueError.__new__") (initId := "ValueError.__init__") (bm := [.type "ValueError", .type "Exception", .type "BaseException", .type "object"]) KX G n_InvalidNumber PySem.F.excBase_ValueError PySem.F.store_ValueError (L2.HM.all_at cx 9 (by rfl)) FiInvalidNumber (by rfl) (by rfl) (by rfl)
  obtain ⟨fdiInvalidStands, FiInvalidStands⟩ := c.fn 33 (by rfl)
  have c_InvalidStands := L2.HM.ixOf (n := 60) (W := 50) (x := "InvalidStands") (B := "ValueError") (newId := "ValueError.__new__") (initId := "ValueError.__init__") (bm := [.type "ValueError", .type "Exception", .type "BaseException", .type "object"]) KX G n_InvalidStands PySem.F.excBase_ValueError PySem.F.store_ValueError (L2.HM.all_at cx 10 (by rfl)) FiInvalidStands (by rfl) (by rfl) (by rfl)
  obtain ⟨fdiInvalidKeys, FiInvalidKeys⟩ := c.fn 34 (by rfl)
  have c_InvalidKeys := L2.HM.ixOf (n := 61) (W := 50) (x := "InvalidKeys") (B := "ValueError") (newId := "ValueError.__new__") (initId := "ValueError.__init__") (bm := [.type "ValueError", .type "Exception", .type "BaseException", .type "object"]) KX G n_InvalidKeys PySem.F.excBase_ValueError PySem.F.store_ValueError (L2.HM.all_at cx 11 (by rfl)) FiInvalidKeys (by rfl) (by rfl) (by rfl)
  obtain ⟨fdiInvalidRows, FiInvalidRows⟩ := c.fn 35 (by rfl)
  have c_InvalidRows := L2.HM.ixOf (n := 62) (W := 50) (x := "InvalidRows") (B := "ValueError") (newId := "ValueError.__new__") (initId := "ValueError.__init__") (bm := [.type "ValueError", .type "Exception", .type "BaseException", .type "object"]) KX G n_InvalidRows PySem.F.excBase_ValueError PySem.F.store_ValueError (L2.HM.all_at cx 12 (by rfl)) FiInvalidRows (by rfl) (by rfl) (by rfl)
  obtain ⟨fdiUnknownName, FiUnknownName⟩ := c.fn 36 (by rfl)
  have c_UnknownName := L2.HM.gvOf (n := 64) (W := 51) (x := "UnknownName") (B := "LookupError") (newId := "LookupError.__new__") (initId := "LookupError.__init__") (bm := [.type "LookupError", .type "Exception", .type "BaseException", .type "object"]) KX G n_UnknownName PySem.F.excBase_LookupError PySem.F.store_LookupError (L2.HM.all_at cx 13 (by rfl)) FiUnknownName (by rfl) (by rfl) (by rfl)
  obtain ⟨c_House, cl_House, na_House, mk_House⟩ := L2.HM.ownB_ok (n := 69) (fl := ["line_count", "stand_pairs", "key_names", "row_texts", "text"]) KX G n_House (L2.HM.all_at cx 24 (by rfl))
  obtain ⟨c_Page, cl_Page, na_Page, mk_Page⟩ := L2.HM.ownB_ok (n := 177) (fl := ["houses", "wish_row", "before", "depth"]) KX G n_Page (L2.HM.all_at cx 25 (by rfl))
  obtain ⟨c_Book, cl_Book, na_Book, mk_Book⟩ := L2.HM.ownB_ok (n := 178) (fl := ["page"]) KX G n_Book (L2.HM.all_at cx 26 (by rfl))
  obtain ⟨c_Asked, cl_Asked, na_Asked, mk_Asked⟩ := L2.HM.ownB_ok (n := 176) (fl := ["houses", "known"]) KX G n_Asked (L2.HM.all_at cx 27 (by rfl))
  obtain ⟨fdInit, in_House⟩ := c.def_ 37 (by rfl)
  have e1_House := L2.HM.tpB_ok (a := L2.HE6.hE 0) (ws := []) (by decide) (L2.HM.all_at cx 22 (by rfl))
  have e2_House := L2.HM.tpB_ok (a := L2.HE6.hE 1) (ws := []) (by decide) (L2.HM.all_at cx 23 (by rfl))
  obtain ⟨fdiPage, FiPage⟩ := c.fn 39 (by rfl)
  obtain ⟨fdiBook, FiBook⟩ := c.fn 40 (by rfl)
  obtain ⟨fdiAsked, FiAsked⟩ := c.fn 41 (by rfl)
  obtain ⟨fdBPut, FBPut⟩ := c.fn 42 (by rfl)
  have mBPut : L2.HE6.mtB 178 "put" K = true := L2.HM.all_at cx 31 (by rfl)
  have mBPut := Bool.and_eq_true_iff.mp mBPut
  obtain ⟨fdBRemove, FBRemove⟩ := c.fn 43 (by rfl)
  have mBRemove : L2.HE6.mtB 178 "remove" K = true := L2.HM.all_at cx 32 (by rfl)
  have mBRemove := Bool.and_eq_true_iff.mp mBRemove
  obtain ⟨fdBTurnTo, FBTurnTo⟩ := c.fn 44 (by rfl)
  have mBTurnTo : L2.HE6.mtB 178 "turn_to" K = true := L2.HM.all_at cx 33 (by rfl)
  have mBTurnTo := Bool.and_eq_true_iff.mp mBTurnTo
  obtain ⟨fdBCheckKnown, FBCheckKnown⟩ := c.fn 45 (by rfl)
  have mBCheckKnown : L2.HE6.mtB 178 "check_known" K = true := L2.HM.all_at cx 34 (by rfl)
  have mBCheckKnown := Bool.and_eq_true_iff.mp mBCheckKnown
  obtain ⟨fdBSetitem, FBSetitem⟩ := c.fn 46 (by rfl)
  have mBSetitem : L2.HE6.mtB 178 "__setitem__" K = true := L2.HM.all_at cx 35 (by rfl)
  have mBSetitem := Bool.and_eq_true_iff.mp mBSetitem
  obtain ⟨fdBGetitem, FBGetitem⟩ := c.fn 47 (by rfl)
  have mBGetitem : L2.HE6.mtB 178 "__getitem__" K = true := L2.HM.all_at cx 36 (by rfl)
  have mBGetitem := Bool.and_eq_true_iff.mp mBGetitem
  obtain ⟨fdBContains, FBContains⟩ := c.fn 48 (by rfl)
  have mBContains : L2.HE6.mtB 178 "__contains__" K = true := L2.HM.all_at cx 37 (by rfl)
  have mBContains := Bool.and_eq_true_iff.mp mBContains
  obtain ⟨fdBLen, FBLen⟩ := c.fn 49 (by rfl)
  have mBLen : L2.HE6.mtB 178 "__len__" K = true := L2.HM.all_at cx 38 (by rfl)
  have mBLen := Bool.and_eq_true_iff.mp mBLen
  obtain ⟨fdBBool, FBBool⟩ := c.fn 50 (by rfl)
  have mBBool : L2.HE6.mtB 178 "__bool__" K = true := L2.HM.all_at cx 39 (by rfl)
  have mBBool := Bool.and_eq_true_iff.mp mBBool
  obtain ⟨fdHEq, FHEq⟩ := c.fn 38 (by rfl)
  have mHEq : L2.HE6.mtB 69 "__eq__" K = true := L2.HM.all_at cx 40 (by rfl)
  have mHEq := Bool.and_eq_true_iff.mp mHEq
  obtain ⟨fdBNames, FBNames⟩ := c.fn 51 (by rfl)
  have pBNames := L2.HM.gtOf (n := 178) (f := "names") (L2.HM.all_at cx 28 (by rfl)) FBNames (FBNames.binds (ps := ["self"]) (by intro _ _ _ _ _ _ us hl; exact (match us, hl with | [_], _ => rfl)))
  obtain ⟨fdBWishes, FBWishes⟩ := c.fn 52 (by rfl)
  have pBWishes := L2.HM.gtOf (n := 178) (f := "wishes") (L2.HM.all_at cx 29 (by rfl)) FBWishes (FBWishes.binds (ps := ["self"]) (by intro _ _ _ _ _ _ us hl; exact (match us, hl with | [_], _ => rfl)))
  obtain ⟨fdBChanges, FBChanges⟩ := c.fn 53 (by rfl)
  have pBChanges := L2.HM.gtOf (n := 178) (f := "changes") (L2.HM.all_at cx 30 (by rfl)) FBChanges (FBChanges.binds (ps := ["self"]) (by intro _ _ _ _ _ _ us hl; exact (match us, hl with | [_], _ => rfl)))
  have ho : L2.HE6.hoB K = true := L2.HM.all_at cx 41 (by rfl)
  unfold L2.HE6.hoB at ho
  simp only [Bool.and_eq_true, decide_eq_true_eq] at ho
  have bk : L2.HE6.bkB K = true := L2.HM.all_at cx 42 (by rfl)
  unfold L2.HE6.bkB at bk
  simp only [Bool.and_eq_true, decide_eq_true_eq] at bk
  have ek : L2.HE6.exK K = true := L2.HM.all_at cx 43 (by rfl)
  unfold L2.HE6.exK at ek
  simp only [Bool.and_eq_true, decide_eq_true_eq] at ek
  have TO : L2.KC.TxtO K mg { IsInteger := _, fdIsInteger := _, IsBetween := _, fdIsBetween := _, IsWord := _, fdIsWord := _, IsStand := _, fdIsStand := _, WrongStand := _, fdWrongStand := _, StandWords := _, fdStandWords := _, WrongKey := _, fdWrongKey := _, WrongRow := _, fdWrongRow := _, IsRow := _, fdIsRow := _, RowParts := _, fdRowParts := _, IsOccasion := _, fdIsOccasion := _, IsCondition := _, fdIsCondition := _, ConditionParts := _, fdConditionParts := _, IsLineCondition := _, fdIsLineCondition := _, IsDeed := _, fdIsDeed := _, HasPhone := _, fdHasPhone := _, HasKey := _, fdHasKey := _, NamesOne := _, fdNamesOne := _, tMostConditions := _, tMostDeeds := _, tLongestWord := _, tMostLines := _, tMostStands := _, tMostKeys := _, tMostRows := _, tFewestStands := _, rPartingWords := _, rHeardWords := _, rPlainOccasions := _, rLineConditions := _, rPhoneConditions := _, rLineDeeds := _, rPhoneDeeds := _, rKeyDeeds := _, tKeyOpening := _, tStandConditionOpening := _, tStandDeedOpening := _ } { CheckStands := _, fdCheckStands := _, CheckKeys := _, fdCheckKeys := _, CheckRows := _, fdCheckRows := _, InvalidStands := _, iInvalidStands := _, InvalidKeys := _, iInvalidKeys := _, InvalidRows := _, iInvalidRows := _, InvalidNumber := _, iInvalidNumber := _ } { House := _, Init := _, fdInit := _, Text := _, fdText := _, E1 := _, E2 := _ } := { gIsInteger := gIsInteger, kIsInteger := FIsInteger.kp, fIsInteger := FIsInteger, bIsInteger := FIsInteger.binds (ps := ["thing"]) (by intro _ _ _ _ _ _ us hl; exact (match us, hl with | [_], _ => rfl)), gIsBetween := gIsBetween, kIsBetween := FIsBetween.kp, fIsBetween := FIsBetween, bIsBetween := FIsBetween.binds (ps := ["thing", "least", "most"]) (by intro _ _ _ _ _ _ us hl; exact (match us, hl with | [_, _, _], _ => rfl)), gIsWord := gIsWord, kIsWord := FIsWord.kp, fIsWord := FIsWord, bIsWord := FIsWord.binds (ps := ["thing"]) (by intro _ _ _ _ _ _ us hl; exact (match us, hl with | [_], _ => rfl)), gIsStand := gIsStand, kIsStand := FIsStand.kp, fIsStand := FIsStand, bIsStand := FIsStand.binds (ps := ["thing"]) (by intro _ _ _ _ _ _ us hl; exact (match us, hl with | [_], _ => rfl)), gWrongStand := gWrongStand, kWrongStand := FWrongStand.kp, fWrongStand := FWrongStand, bWrongStand := FWrongStand.binds (ps := ["stands"]) (by intro _ _ _ _ _ _ us hl; exact (match us, hl with | [_], _ => rfl)), gStandWords := gStandWords, kStandWords := FStandWords.kp, fStandWords := FStandWords, bStandWords := FStandWords.binds (ps := ["stands"]) (by intro _ _ _ _ _ _ us hl; exact (match us, hl with | [_], _ => rfl)), gWrongKey := gWrongKey, kWrongKey := FWrongKey.kp, fWrongKey := FWrongKey, bWrongKey := FWrongKey.binds (ps := ["keys"]) (by intro _ _ _ _ _ _ us hl; exact (match us, hl with | [_], _ => rfl)), gWrongRow := gWrongRow, kWrongRow := FWrongRow.kp, fWrongRow := FWrongRow, bWrongRow := FWrongRow.binds (ps := ["rows", "stands", "keys"]) (by intro _ _ _ _ _ _ us hl; exact (match us, hl with | [_, _, _], _ => rfl)), gIsRow := gIsRow, kIsRow := FIsRow.kp, fIsRow := FIsRow, bIsRow := FIsRow.binds (ps := ["thing", "stands", "keys"]) (by intro _ _ _ _ _ _ us hl; exact (match us, hl with | [_, _, _], _ => rfl)), gRowParts := gRowParts, kRowParts := FRowParts.kp, fRowParts := FRowParts, bRowParts := FRowParts.binds (ps := ["row"]) (by intro _ _ _ _ _ _ us hl; exact (match us, hl with | [_], _ => rfl)), gIsOccasion := gIsOccasion, kIsOccasion := FIsOccasion.kp, fIsOccasion := FIsOccasion, bIsOccasion := FIsOccasion.binds (ps := ["text", "keys"]) (by intro _ _ _ _ _ _ us hl; exact (match us, hl with | [_, _], _ => rfl)), gIsCondition := gIsCondition, kIsCondition := FIsCondition.kp, fIsCondition := FIsCondition, bIsCondition := FIsCondition.binds (ps := ["text", "occasion", "words"]) (by intro _ _ _ _ _ _ us hl; exact (match us, hl with | [_, _, _], _ => rfl)), gConditionParts := gConditionParts, kConditionParts := FConditionParts.kp, fConditionParts := FConditionParts, bConditionParts := FConditionParts.binds (ps := ["text"]) (by intro _ _ _ _ _ _ us hl; exact (match us, hl with | [_], _ => rfl)), gIsLineCondition := gIsLineCondition, kIsLineCondition := FIsLineCondition.kp, fIsLineCondition := FIsLineCondition, bIsLineCondition := FIsLineCondition.binds (ps := ["plain", "words"]) (by intro _ _ _ _ _ _ us hl; exact (match us, hl with | [_, _], _ => rfl)), gIsDeed := gIsDeed, kIsDeed := FIsDeed.kp, fIsDeed := FIsDeed, bIsDeed := FIsDeed.binds (ps := ["text", "occasion", "words"]) (by intro _ _ _ _ _ _ us hl; exact (match us, hl with | [_, _, _], _ => rfl)), gHasPhone := gHasPhone, kHasPhone := FHasPhone.kp, fHasPhone := FHasPhone, bHasPhone := FHasPhone.binds (ps := ["occasion"]) (by intro _ _ _ _ _ _ us hl; exact (match us, hl with | [_], _ => rfl)), gHasKey := gHasKey, kHasKey := FHasKey.kp, fHasKey := FHasKey, bHasKey := FHasKey.binds (ps := ["occasion"]) (by intro _ _ _ _ _ _ us hl; exact (match us, hl with | [_], _ => rfl)), gNamesOne := gNamesOne, kNamesOne := FNamesOne.kp, fNamesOne := FNamesOne, bNamesOne := FNamesOne.binds (ps := ["text", "opening", "words"]) (by intro _ _ _ _ _ _ us hl; exact (match us, hl with | [_, _, _], _ => rfl)), gCheckStands := gCheckStands, kCheckStands := FCheckStands.kp, fCheckStands := FCheckStands, bCheckStands := FCheckStands.binds (ps := ["stands"]) (by intro _ _ _ _ _ _ us hl; exact (match us, hl with | [_], _ => rfl)), gCheckKeys := gCheckKeys, kCheckKeys := FCheckKeys.kp, fCheckKeys := FCheckKeys, bCheckKeys := FCheckKeys.binds (ps := ["keys"]) (by intro _ _ _ _ _ _ us hl; exact (match us, hl with | [_], _ => rfl)), gCheckRows := gCheckRows, kCheckRows := FCheckRows.kp, fCheckRows := FCheckRows, bCheckRows := FCheckRows.binds (ps := ["rows", "stands", "keys"]) (by intro _ _ _ _ _ _ us hl; exact (match us, hl with | [_, _, _], _ => rfl)), blen := b_len, bisinstance := b_isinstance, bint := b_int, bbool := b_bool, bstr := b_str, btuple := b_tuple, ball := b_all, benumerate := b_enumerate, mgMostConditions := mMostConditions, mgMostDeeds := mMostDeeds, mgLongestWord := mLongestWord, mgMostLines := mMostLines, mgMostStands := mMostStands, mgMostKeys := mMostKeys, mgMostRows := mMostRows, mgFewestStands := mFewestStands, mgPartingWords := mPartingWords, mgHeardWords := mHeardWords, mgPlainOccasions := mPlainOccasions, mgLineConditions := mLineConditions, mgPhoneConditions := mPhoneConditions, mgLineDeeds := mLineDeeds, mgPhoneDeeds := mPhoneDeeds, mgKeyDeeds := mKeyDeeds, mgKeyOpening := mKeyOpening, mgStandConditionOpening := mStandConditionOpening, mgStandDeedOpening := mStandDeedOpening, wPartingWords := wPartingWords, wHeardWords := wHeardWords, wPlainOccasions := wPlainOccasions, wLineConditions := wLineConditions, wPhoneConditions := wPhoneConditions, wLineDeeds := wLineDeeds, wPhoneDeeds := wPhoneDeeds, wKeyDeeds := wKeyDeeds, gInvalidStands := c_InvalidStands.g, cInvalidStands := c_InvalidStands.c, rInvalidStands := L2.XK.raOf c_InvalidStands, gInvalidKeys := c_InvalidKeys.g, cInvalidKeys := c_InvalidKeys.c, rInvalidKeys := L2.XK.raOf c_InvalidKeys, gInvalidRows := c_InvalidRows.g, cInvalidRows := c_InvalidRows.c, rInvalidRows := L2.XK.raOf c_InvalidRows, gInvalidNumber := c_InvalidNumber.g, cInvalidNumber := c_InvalidNumber.c, rInvalidNumber := L2.XK.raOfGv c_InvalidNumber, tx := { gHouseText := gHouseText, kHouseText := FHouseText.kp, fHouseText := FHouseText, bHouseText := FHouseText.binds (ps := ["lines", "stands", "keys", "rows"]) (by intro _ _ _ _ _ _ us hl; exact (match us, hl with | [_, _, _, _], _ => rfl)) }, cl := cl_House, n1 := na_House _ (by simp), n2 := na_House _ (by simp), n3 := na_House _ (by simp), n4 := na_House _ (by simp), n5 := na_House _ (by simp), init := in_House, e1 := e1_House, e2 := e2_House, mkH := mk_House, gHouse := c_House.g }
  have TZ : L2.KB.TxtZ K mg _ _ _ { LawPurse := _, fdLawPurse := _, LawDraw := _, fdLawDraw := _, LawPick := _, fdLawPick := _, LawCalled := _, fdLawCalled := _, LawKept := _, fdLawKept := _, LawStrange := _, fdLawStrange := _, Law := _, fdLaw := _, IsName := _, fdIsName := _, CheckHouse := _, fdCheckHouse := _, CheckWishes := _, fdCheckWishes := _, Page := _, PageInit := _, fdPageInit := _, Book := _, BookInit := _, fdBookInit := _, Asked := _, AskedInit := _, fdAskedInit := _, BookPut := _, fdBookPut := _, BookRemove := _, fdBookRemove := _, BookTurnTo := _, fdBookTurnTo := _, BookCheckKnown := _, fdBookCheckKnown := _, BookNames := _, fdBookNames := _, BookWishes := _, fdBookWishes := _, BookChanges := _, fdBookChanges := _, BookSetitem := _, fdBookSetitem := _, BookGetitem := _, fdBookGetitem := _, BookContains := _, fdBookContains := _, BookLen := _, fdBookLen := _, BookBool := _, fdBookBool := _, pBookNames := _, pBookWishes := _, pBookChanges := _, UnknownName := _, iUnknownName := _, WrongState := _, WrongValue := _, NoAnswer := _, InvalidIndex := _, HEq := _, fdHEq := _ } := { toTxtO := TO, gLawPurse := gLawPurse, kLawPurse := FLawPurse.kp, fLawPurse := FLawPurse, bLawPurse := FLawPurse.binds (ps := ["_law_script"]) (by intro _ _ _ _ _ _ us hl; exact (match us, hl with | [_], _ => rfl)), gLawDraw := gLawDraw, kLawDraw := FLawDraw.kp, fLawDraw := FLawDraw, bLawDraw := FLawDraw.binds (ps := ["_law_purse_here", "_law_many"]) (by intro _ _ _ _ _ _ us hl; exact (match us, hl with | [_, _], _ => rfl)), gLawPick := gLawPick, kLawPick := FLawPick.kp, fLawPick := FLawPick, bLawPick := FLawPick.binds (ps := ["_law_purse_here", "_law_menu"]) (by intro _ _ _ _ _ _ us hl; exact (match us, hl with | [_, _], _ => rfl)), gLawCalled := gLawCalled, kLawCalled := FLawCalled.kp, fLawCalled := FLawCalled, bLawCalled := FLawCalled.binds (ps := ["_law_purse_here", "_law_many"]) (by intro _ _ _ _ _ _ us hl; exact (match us, hl with | [_, _], _ => rfl)), gLawKept := gLawKept, kLawKept := FLawKept.kp, fLawKept := FLawKept, bLawKept := FLawKept.binds (ps := ["_law_book", "_law_known", "_law_changes"]) (by intro _ _ _ _ _ _ us hl; exact (match us, hl with | [_, _, _], _ => rfl)), gLawStrange := gLawStrange, kLawStrange := FLawStrange.kp, fLawStrange := FLawStrange, bLawStrange := FLawStrange.binds (ps := ["_law_book"]) (by intro _ _ _ _ _ _ us hl; exact (match us, hl with | [_], _ => rfl)), gLaw := gLaw, kLaw := FLaw.kp, fLaw := FLaw, bLaw := FLaw.binds (ps := ["_law_script"]) (by intro _ _ _ _ _ _ us hl; exact (match us, hl with | [_], _ => rfl)), gIsName := gIsName, kIsName := FIsName.kp, fIsName := FIsName, bIsName := FIsName.binds (ps := ["thing"]) (by intro _ _ _ _ _ _ us hl; exact (match us, hl with | [_], _ => rfl)), gCheckHouse := gCheckHouse, kCheckHouse := FCheckHouse.kp, fCheckHouse := FCheckHouse, bCheckHouse := FCheckHouse.binds (ps := ["house"]) (by intro _ _ _ _ _ _ us hl; exact (match us, hl with | [_], _ => rfl)), gCheckWishes := gCheckWishes, kCheckWishes := FCheckWishes.kp, fCheckWishes := FCheckWishes, bCheckWishes := FCheckWishes.binds (ps := ["houses", "wish_row", "touched"]) (by intro _ _ _ _ _ _ us hl; exact (match us, hl with | [_, _, _], _ => rfl)), clPage := cl_Page, mkPage := mk_Page, gPage := c_Page.g, nPageHouses := na_Page _ (by simp), nPageWishRow := na_Page _ (by simp), nPageBefore := na_Page _ (by simp), nPageDepth := na_Page _ (by simp), fPageInit := FiPage, bPageInit := FiPage.binds (ps := ["self", "houses", "wish_row", "before"]) (by intro _ _ _ _ _ _ us hl; exact (match us, hl with | [_, _, _, _], _ => rfl)), clBook := cl_Book, mkBook := mk_Book, gBook := c_Book.g, nBookPage := na_Book _ (by simp), fBookInit := FiBook, bBookInit := FiBook.binds (ps := ["self"]) (by intro _ _ _ _ _ _ us hl; exact (match us, hl with | [_], _ => rfl)), clAsked := cl_Asked, mkAsked := mk_Asked, gAsked := c_Asked.g, nAskedHouses := na_Asked _ (by simp), nAskedKnown := na_Asked _ (by simp), fAskedInit := FiAsked, bAskedInit := FiAsked.binds (ps := ["self", "houses"]) (by intro _ _ _ _ _ _ us hl; exact (match us, hl with | [_, _], _ => rfl)), fBookPut := FBPut, bBookPut := FBPut.binds (ps := ["self", "name", "house"]) (by intro _ _ _ _ _ _ us hl; exact (match us, hl with | [_, _, _], _ => rfl)), meBookPut := ⟨of_decide_eq_true mBPut.1, mBPut.2, FBPut.kp⟩, fBookRemove := FBRemove, bBookRemove := FBRemove.binds (ps := ["self", "name"]) (by intro _ _ _ _ _ _ us hl; exact (match us, hl with | [_, _], _ => rfl)), meBookRemove := ⟨of_decide_eq_true mBRemove.1, mBRemove.2, FBRemove.kp⟩, fBookTurnTo := FBTurnTo, bBookTurnTo := FBTurnTo.binds (ps := ["self", "houses", "wish_row"]) (by intro _ _ _ _ _ _ us hl; exact (match us, hl with | [_, _, _], _ => rfl)), meBookTurnTo := ⟨of_decide_eq_true mBTurnTo.1, mBTurnTo.2, FBTurnTo.kp⟩, fBookCheckKnown := FBCheckKnown, bBookCheckKnown := FBCheckKnown.binds (ps := ["self", "name"]) (by intro _ _ _ _ _ _ us hl; exact (match us, hl with | [_, _], _ => rfl)), meBookCheckKnown := ⟨of_decide_eq_true mBCheckKnown.1, mBCheckKnown.2, FBCheckKnown.kp⟩, fBookNames := FBNames, bBookNames := FBNames.binds (ps := ["self"]) (by intro _ _ _ _ _ _ us hl; exact (match us, hl with | [_], _ => rfl)), prBookNames := pBNames, fBookWishes := FBWishes, bBookWishes := FBWishes.binds (ps := ["self"]) (by intro _ _ _ _ _ _ us hl; exact (match us, hl with | [_], _ => rfl)), prBookWishes := pBWishes, fBookChanges := FBChanges, bBookChanges := FBChanges.binds (ps := ["self"]) (by intro _ _ _ _ _ _ us hl; exact (match us, hl with | [_], _ => rfl)), prBookChanges := pBChanges, fBookSetitem := FBSetitem, bBookSetitem := FBSetitem.binds (ps := ["self", "at", "worth"]) (by intro _ _ _ _ _ _ us hl; exact (match us, hl with | [_, _, _], _ => rfl)), hBookSetitem := of_decide_eq_true mBSetitem.1, fnBookSetitem := mBSetitem.2, fBookGetitem := FBGetitem, bBookGetitem := FBGetitem.binds (ps := ["self", "at"]) (by intro _ _ _ _ _ _ us hl; exact (match us, hl with | [_, _], _ => rfl)), hBookGetitem := of_decide_eq_true mBGetitem.1, fnBookGetitem := mBGetitem.2, fBookContains := FBContains, bBookContains := FBContains.binds (ps := ["self", "x"]) (by intro _ _ _ _ _ _ us hl; exact (match us, hl with | [_, _], _ => rfl)), hBookContains := of_decide_eq_true mBContains.1, fnBookContains := mBContains.2, fBookLen := FBLen, bBookLen := FBLen.binds (ps := ["self"]) (by intro _ _ _ _ _ _ us hl; exact (match us, hl with | [_], _ => rfl)), hBookLen := of_decide_eq_true mBLen.1, fnBookLen := mBLen.2, fBookBool := FBBool, bBookBool := FBBool.binds (ps := ["self"]) (by intro _ _ _ _ _ _ us hl; exact (match us, hl with | [_], _ => rfl)), hBookBool := of_decide_eq_true mBBool.1, fnBookBool := mBBool.2, fkBookGetitem := bk.1, bkseq := bk.2.1, bkm := bk.2.2.1, bkeq := bk.2.2.2.1, bkne := bk.2.2.2.2, gUnknownName := PySem.W.mg_of KX G n_UnknownName, gWrongState := PySem.W.mg_of KX G n_WrongState, gWrongValue := PySem.W.mg_of KX G n_WrongValue, gNoAnswer := PySem.W.mg_of KX G n_NoAnswer, gInvalidIndex := PySem.W.mg_of KX G n_InvalidIndex, cUnknownName := c_UnknownName.c, rUnknownName := L2.XK.raOfGv c_UnknownName, xiU := c_UnknownName.s.is, xU := ek.1, kU1 := ek.2.1, kU2 := ek.2.2, hHEq := of_decide_eq_true mHEq.1, fnHEq := mHEq.2, fHEq := FHEq, bHEq := FHEq.binds (ps := ["self", "other"]) (by intro _ _ _ _ _ _ us hl; exact (match us, hl with | [_, _], _ => rfl)), nfH := ho.1, hca := ho.2.1, hcn := ho.2.2.1, hct := ho.2.2.2.1, hcm := ho.2.2.2.2, brange := b_range, babs := b_abs, blist := b_list, bsorted := b_sorted, bdict := b_dict }
  have eq := hmg.symm.trans gLaw
  cases eq
  refine ⟨K, KX, fdLaw, L2.KB.spLaw K, fun s u => ?_, fun H a ns hl hS => ⟨a, ns, rfl, hS, hl, fun _ => rfl⟩, fun base _ _ => L2.KB.ok_law TZ⟩
  obtain ⟨oc, od, kV, doc, pm, an, cdv, ct, osl, e, _⟩ := FLaw.ex
  show BindsTo s fdLaw _ _
  rw [e]
  exact PySem.BindsTo.of_eq (by rfl)
end L2.HE6
open PySem PySem.W PySem.Calls PyProof.Rows
set_option maxRecDepth 100000 in
set_option maxHeartbeats 0 in
theorem PySem.Challenge.cw_holdhouse_k57_books_keep_houses_holds : PySem.Challenge.rw_holdhouse_k57_books_keep_houses.Holds := by
  w_on; o_law
  refine HandSHeadRun.head_any (r := L2.HE6.R) (q := view L2.HE6.R.prog [199]) (H := L2.HE6.hk) (ob := L2.HE6.ob) (M := 16000) (loose := L2.HE6.names) (d := HandSHeadRun.topDef L2.HE6.R.prog 199) (kwd := []) L2.HE6.ob_eq
    (by kernel_rfl) (fun s => by kernel_rfl) L2.HE6.run (by kernel_rfl) (by kernel_rfl) (by kernel_rfl) (by rfl) (by first | assumption | decide +kernel) (by decide +kernel) ⟨rfl, rfl, rfl, rfl, rfl, by decide +kernel⟩ ?hw ?hc
  case hw => w_witness2
  case hc =>
    refine L2.HM.walkO (l := PySem.Challenge.rw_holdhouse_k57_books_keep_houses) (n := 63) (k := 9) (x := "_law_script") rfl (by decide) (by kernel_rfl) ⟨rfl, by decide, by decide⟩ ?F
    intro w mg fa h Y G hmg0
    obtain ⟨K, c⟩ := Y
    have hmg : mg ("law" : PySem.Str) = some (.ref fa) := by
      have e : (HandSHeadRun.topDef L2.HE6.R.prog 199).name = ("law" : PySem.Str) := by kernel_rfl
      rw [← e]
      exact hmg0
    exact L2.HE6.fin c G hmg


