import PyProof.Rows.All
import Wide.All
import OpenK.AllK
import Wide.FinOn
import HandS.ForMost
import HandS.ForExc
import HandS.SlotsOwn
import KE.KMathG
import KE.KOpsOwn
import HandS.ExcInit
import HandS.ExcField
import HandS.ExcIs
import HandS.IsInst
import HandS.OwnEq
import HandS.Gcd
import HandS.Wide
import HandS.Codes
import HandS.Style
import HandS.DictComp
import HandS.Zip
import HandS.TupAny
import HandS.TryMany
import KE.KMathGC
import HandS.Deep
import KE.SortData
import KE.KDictDisplayH
import HandS.Strs
import PyProof.NeKinds
import KE.OsSortAny
import HandS.Head0
import HandS.Head1
import HandS.Head2
import HandS.Head3
import HandS.HeadEnd
import HandS.HeadHook1
import HandS.HeadHook2
import KE.GoesEnum
import KE.GoesMore
import HandS.ExcOwn
import PySem.Challenge.RW_threetiles_k25_presses_judged
set_option Elab.async false
set_option linter.all false
set_option maxRecDepth 100000
set_option maxHeartbeats 4000000

/-! The head by one kernel run: what is asked of the heap that the top leaves is a list of Booleans and of the defs' texts. -/
namespace L2.My
open PySem PySem.Spec PyProof.Rows

def adr : Option (Option Value) → Addr
  | some (some (.ref a)) => a
  | _ => 0
def isR : Option (Option Value) → Bool
  | some (some (.ref _)) => true
  | _ => false
theorem isR_ok {x : Option (Option Value)} (h : isR x = true) : x = some (some (.ref (adr x))) := by
  unfold isR at h
  split at h
  · rfl
  · cases h

abbrev FnT : Type := Option (Str × Str × Arguments × FuncBody × Scope × Addr × List (Str × Addr) × Value × Addr)
def objAt (K : PySem.W.Frag) (f : Addr) : Obj := (K.lookup f).getD default
def fdOf : Obj → Option FuncData
  | ⟨_, _, .func fd, _⟩ => some fd
  | _ => none
def fdAt (K : PySem.W.Frag) (f : Addr) : Option FuncData := (K.lookup f).bind fdOf
def fnT (K : PySem.W.Frag) (f : Addr) : FnT :=
  (fdAt K f).map fun fd => (fd.name, fd.qualname, fd.params, fd.body, fd.scope, fd.globals, fd.closure, fd.defaults, fd.builtins)
def fnE (n q : Str) (st : Stmt) : FnT :=
  some (n, q, defArgs st, .stmts (defBody st), defScope st, mainGlobals, [], .none, builtinsNs)
abbrev fdK (K : PySem.W.Frag) (f : Addr) : FuncData := (fdAt K f).getD ⟨"", "", defArgs (.Pass ⟨0, 0, 0, 0⟩), .stmts [], defScope (.Pass ⟨0, 0, 0, 0⟩), 0, [], .none, .none, .none, .none, none, .none, .none, 0⟩
theorem fn_l {K : PySem.W.Frag} {f : Addr} {n q : Str} {st : Stmt} (e : fnT K f = fnE n q st) :
    K.lookup f = some ⟨(objAt K f).cls, (objAt K f).dict, .func (PySem.W.fnOf n q (defArgs st) (defBody st) (defScope st) .none (fdK K f).kwdefaults (fdK K f).doc (fdK K f).pyModule (fdK K f).annotations (fdK K f).code (fdK K f).closureTuple), (objAt K f).slots⟩ := by
  unfold fnT fnE at e
  unfold fdK fdAt objAt at *
  cases h : K.lookup f with
  | none => rw [h] at e; cases e
  | some o =>
    rw [h] at e
    obtain ⟨oc, od, dt, sl⟩ := o
    cases dt with
    | func fd =>
      obtain ⟨x1, x2, x3, x4, x5, x6, x7, x8, x9, x10, x11, x12, x13, x14, x15⟩ := fd
      cases e
      rfl
    | _ => cases e

/-- a module's integer -/
def isIntV (x : Option (Option Value)) (k : Int) : Bool := match x with
  | some (some (.int n _)) => decide (n = k)
  | _ => false
/-- the thing at u is this constant data -/
def kdB (K : PySem.W.Frag) : Nat → Value → PyData → Bool
  | _ + 1, .int i _, .int j => decide (i = j)
  | n + 1, .ref a, .tuple ds => match K.lookup a with
    | some ⟨.type t, _, .seq its _, _⟩ => decide (t = "tuple") && Nat.ble its.size 1000 && decide (its.toList.length = ds.length) && (its.toList.zip ds).all fun p => kdB K n p.1 p.2
    | _ => false
  | _, _, _ => false
structure CV where
  nm : Str
  q : Str
  N : Addr
  bs : List Value
  sn : List Str
  sub : List Value
  ab : Bool
  col : Option Bool
  dd : Option Addr
  m0 : Option Value
  m1 : Option Value
  m2 : Option Value
  m3 : Option Value
  m5 : Option Value

def excB (K : PySem.W.Frag) (C B : Addr) (ms : List Value) (nw : String) : Bool :=
  match K.lookup C with
  | some ⟨.type t, _, .cls cd, sl⟩ =>
    match sl.toList with
    | [_, _, _, _, some (.builtin i), _] =>
      decide (t = "type") && decide (cd.mro = .ref C :: .ref B :: ms) && cd.hasDict && !cd.hasDel && decide (i = nw)
    | _ => false
  | _ => false
theorem excB_ok {K : PySem.W.Frag} {C B : Addr} {ms : List Value} {nw : String} (h : excB K C B ms nw = true) :
    ∃ c : CV, K.lookup C = some (excClassObj c.nm c.q C c.N c.bs (.ref B :: ms) true c.sn c.sub c.ab c.col c.dd c.m0 c.m1 c.m2 c.m3 c.m5 nw) := by
  unfold excB at h
  split at h
  · rename_i t dd cd sl hl
    split at h
    · rename_i k0 k1 k2 k3 i k5 hs
      simp only [Bool.and_eq_true, decide_eq_true_eq, Bool.not_eq_true'] at h
      obtain ⟨⟨⟨⟨ht, hm⟩, hd⟩, hx⟩, hi⟩ := h
      obtain ⟨x1, x2, x3, x4, x5, x6, x7, x8, x9, x10, x11⟩ := cd
      obtain ⟨sl⟩ := sl
      simp only at hm hd hx hs
      subst hm hd hx ht hi hs
      exact ⟨⟨x1, x5, x4, x2, x7, x8, x9, x10, dd, k0, k1, k2, k3, k5⟩, hl⟩
    · cases h
  · cases h

/-- what a def, a class or a namespace leads to: its code, its namespace, its values -/
def leads (g : Addr → Option Obj) (a : Addr) : List Addr :=
  match g a with
  | some ⟨_, _, .func fd, _⟩ => He.refV fd.code
  | some ⟨_, _, .cls cd, _⟩ => [cd.ns]
  | some ⟨_, _, .dict es _, _⟩ => es.toList.flatMap fun e => He.refV e.val
  | some ⟨.type t, _, .seq its _, _⟩ => if t = "tuple" then its.toList.flatMap He.refV else []
  | _ => []
def frOf (g : Addr → Option Obj) (ns : List Str) : PySem.W.Frag :=
  let A := ns.map (He.ga (He.frG g [mainGlobals]))
  let B := A.flatMap (leads g)
  let C := B.flatMap (leads g)
  He.frG g (mainGlobals :: A ++ (B ++ (C ++ C.flatMap (leads g))))

def hookF (ns : List Str) (bs : PySem.W.Frag → List Bool) (fs : PySem.W.Frag → List FnT) (ws : List FnT) : PySem.W.Hook where
  α := Bool × List FnT
  obs s := ((bs (frOf s.heap.get? ns)).all id, fs (frOf s.heap.get? ns))
  val _ := (true, ws)
  says _ h := ∃ K : PySem.W.Frag, K.In h ∧ (bs K).all id = true ∧ fs K = ws
  of _ _ e := ⟨_, He.frG_in, (Prod.mk.inj e).1, (Prod.mk.inj e).2⟩
  keeps _ _ _ := fun ⟨K, a, b⟩ f => ⟨K, fun x o e => f x o (a x o e), b⟩

def obF (ns : List Str) (bs : PySem.W.Frag → List Bool) (fs : PySem.W.Frag → List FnT) (s : PySem.W.SharedT) : Bool × List FnT :=
  ((bs (frOf (HandSHeadRun.getT s) ns)).all id, fs (frOf (HandSHeadRun.getT s) ns))
theorem obF_eq {ns : List Str} {bs : PySem.W.Frag → List Bool} {fs : PySem.W.Frag → List FnT} {ws : List FnT} (s : PySem.W.SharedT) :
    obF ns bs fs s = (hookF ns bs fs ws).obs s.abs := by
  have e : HandSHeadRun.getT s = s.abs.heap.get? := funext (HandSHeadRun.getT_eq s)
  unfold obF hookF
  simp only [e]

noncomputable abbrev wholeO (r : PySem.W.OpenRow) (M : Nat) (w : World) : Option (Shared × PySem.W.SharedT) :=
  HandSHeadRun.wholeF (fun p => HandSHeadRun.stepQ (HandSHeadRun.denQ HandSHeadRun.tabQ) p w) HandSHeadRun.fenceQ M r.prog
def RunB (r : PySem.W.OpenRow) (M : Nat) (w : World) (ns : List Str) (b : PySem.W.Frag → List Bool) : Prop :=
  Option.map (fun x => (b (frOf (HandSHeadRun.getT x.2) ns)).all id) (wholeO r M w) = some true
def RunF (r : PySem.W.OpenRow) (M : Nat) (w : World) (ns : List Str) (f : PySem.W.Frag → List FnT) (ws : List FnT) : Prop :=
  Option.map (fun x => f (frOf (HandSHeadRun.getT x.2) ns)) (wholeO r M w) = some ws
theorem run_b {r : PySem.W.OpenRow} {q : Program} {M : Nat} {loose : List Str} {w : World} {ns : List Str} {b b' : PySem.W.Frag → List Bool} {f : PySem.W.Frag → List FnT} {ws : List FnT}
    (h : HandSHeadRun.RunEqI r q (hookF ns b f ws) (obF ns b f) M loose w) (h' : RunB r M w ns b') :
    HandSHeadRun.RunEqI r q (hookF ns (fun K => b' K ++ b K) f ws) (obF ns (fun K => b' K ++ b K) f) M loose w := by
  unfold HandSHeadRun.RunEqI at h ⊢
  unfold RunB wholeO at h'
  generalize HandSHeadRun.wholeF (fun p => HandSHeadRun.stepQ (HandSHeadRun.denQ HandSHeadRun.tabQ) p w) HandSHeadRun.fenceQ M r.prog = o at h h' ⊢
  cases o with
  | none => cases h
  | some x =>
    have h := Prod.mk.inj (Option.some.inj h)
    have h2 := Prod.mk.inj h.2
    have h3 := Prod.mk.inj h2.2
    have h' := Option.some.inj h'
    show some _ = some _
    refine congrArg some (Prod.ext h.1 (Prod.ext h2.1 (Prod.ext ?_ h3.2)))
    show (b' _ ++ b _).all id = true
    have h4 : (b' (frOf (HandSHeadRun.getT x.2) ns)).all id = true := h'
    rw [List.all_append, h4, Bool.true_and]
    exact h3.1
theorem run_f {r : PySem.W.OpenRow} {q : Program} {M : Nat} {loose : List Str} {w : World} {ns : List Str} {b : PySem.W.Frag → List Bool} {f f' : PySem.W.Frag → List FnT} {ws ws' : List FnT}
    (h : HandSHeadRun.RunEqI r q (hookF ns b f ws) (obF ns b f) M loose w) (h' : RunF r M w ns f' ws') :
    HandSHeadRun.RunEqI r q (hookF ns b (fun K => f' K ++ f K) (ws' ++ ws)) (obF ns b (fun K => f' K ++ f K)) M loose w := by
  unfold HandSHeadRun.RunEqI at h ⊢
  unfold RunF wholeO at h'
  generalize HandSHeadRun.wholeF (fun p => HandSHeadRun.stepQ (HandSHeadRun.denQ HandSHeadRun.tabQ) p w) HandSHeadRun.fenceQ M r.prog = o at h h' ⊢
  cases o with
  | none => cases h
  | some x =>
    have h := Prod.mk.inj (Option.some.inj h)
    have h2 := Prod.mk.inj h.2
    have h3 := Prod.mk.inj h2.2
    have h' := Option.some.inj h'
    show some _ = some _
    refine congrArg some (Prod.ext h.1 (Prod.ext h2.1 (Prod.ext h3.1 ?_)))
    show f' _ ++ f _ = ws' ++ ws
    exact congr (congrArg _ h') h3.2

theorem nthB : ∀ {l : List Bool}, l.all id = true → ∀ i : Nat, l.getD i true = true
  | [], _, _ => rfl
  | b :: l, h, 0 => by
    simp only [List.all_cons, id, Bool.and_eq_true] at h
    exact h.1
  | b :: l, h, i + 1 => by
    simp only [List.all_cons, id, Bool.and_eq_true] at h
    exact nthB (l := l) h.2 i
theorem nthF {l m : List FnT} (h : l = m) (i : Nat) : l.getD i none = m.getD i none := by rw [h]
theorem dok {p : Prop} [Decidable p] (h : decide p = true) : p := of_decide_eq_true h

theorem walk_ofEW {l : PySem.W.OpenLaw} {n k : Nat} {q : Program} {loose : List Str} {XP : (Str → Option Value) → Heap → Prop} {YP : World → Heap → Prop} {d : DefRec} {CX : World → L2.CXT} {x : Str}
    (hn : l.most = some n) (hz : n ≤ sizeLine) (hd : d.params.defaults = []) (hr : L2.Room k callerA)
    (F : ∀ (w : World) (mg : Str → Option Value) (fa : Addr) (h : Heap), YP w h → h.Ns mainGlobals mg → mg d.name = some (.ref fa) →
      ∃ K fd sp, PySem.W.Frag.In K h ∧ (∀ (s : Shared) (u : Value), BindsTo s fd { pos := [u] } [(x, u)]) ∧
        (∀ (H : L2.Hp) (a : Addr) (ns : List Int), ns.length ≤ n → L2.Only H → L2.SqL K H a (ns.map L2.V.int) → sp [L2.V.ref a] H (fun v x => v = L2.V.bl true) fun x x_1 x_2 => False) ∧
        ∀ base : Heap, PySem.W.Frag.In K base → base.Ns mainGlobals mg → L2.FnOk l.prog w K mg base (CX w) k fa fd [x] sp)
    (N : ∀ (w : World) (H : L2.Hp) (s : Shared) (e : Value) (s' : Shared), CX w [] H s (fun x x_1 x_2 => False) e s' → False) :
    PySem.W.WalkO q loose XP YP l.row.toRowW d [] (fun f vs => PySem.call f vs) := by
  intro w s0 s1 mg mb Gr Y
  refine L2.walk_ofE (l := l) (n := n) (k := k) (q := q) (loose := loose) (XP := XP) (YP := fun w' h => w' = w ∧ YP w h) (d := d) (CX := CX w) (x := x) hn hz hd hr ?_ (N w) w s0 s1 mg mb Gr ⟨rfl, Y⟩
  rintro w' mg' fa h ⟨rfl, Y'⟩ G hm
  exact F w' mg' fa h Y' G hm
end L2.My

namespace L2.My
open PySem PySem.Spec PyProof.Rows
def Z_top (i : Nat) : Stmt := PySem.Challenge.pw_threetiles_k25_presses_judged.main.body.getD i (.Pass ⟨0, 0, 0, 0⟩)

abbrev Z_s_is_integral : Stmt := Z_top 7
abbrev Z_s_BadBounds_init : Stmt := inClass (Z_top 5) 0
abbrev Z_s_BadNumber_init : Stmt := inClass (Z_top 4) 0
abbrev Z_s_Root_init : Stmt := inClass (Z_top 11) 0
abbrev Z_s_Root_eq : Stmt := inClass (Z_top 11) 1
abbrev Z_s_Root_neg : Stmt := inClass (Z_top 11) 8
abbrev Z_s_is_number : Stmt := Z_top 8
abbrev Z_s_as_root : Stmt := Z_top 9
abbrev Z_s_surd_sign : Stmt := Z_top 10
abbrev Z_s_Root_add : Stmt := inClass (Z_top 11) 2
abbrev Z_s_Root_sub : Stmt := inClass (Z_top 11) 4
abbrev Z_s_Root_mul : Stmt := inClass (Z_top 11) 6
abbrev Z_s_Root_radd : Stmt := inClass (Z_top 11) 3
abbrev Z_s_Root_rmul : Stmt := inClass (Z_top 11) 7
abbrev Z_s_Root_rsub : Stmt := inClass (Z_top 11) 5
abbrev Z_s_Root_less : Stmt := inClass (Z_top 11) 10
abbrev Z_s_Root_sign : Stmt := inClass (Z_top 11) 11
abbrev Z_s_is_bound : Stmt := Z_top 15
abbrev Z_s_check_bounds : Stmt := Z_top 16
abbrev Z_s__law_begin : Stmt := Z_top 23
abbrev Z_s__law_draw : Stmt := Z_top 24
abbrev Z_s__law_great : Stmt := Z_top 25
abbrev Z_s__law_number : Stmt := Z_top 26
abbrev Z_s__law_plus : Stmt := Z_top 27
abbrev Z_s__law_scaled : Stmt := Z_top 28
abbrev Z_s__law_sign : Stmt := Z_top 29
abbrev Z_s__law_compare : Stmt := Z_top 30
abbrev Z_s__law_hand : Stmt := Z_top 32
abbrev Z_s__law_handed : Stmt := Z_top 33
abbrev Z_s__law_vector : Stmt := Z_top 34
abbrev Z_s__law_along : Stmt := Z_top 35
abbrev Z_s__law_lets : Stmt := Z_top 36
abbrev Z_s__law_in_all : Stmt := Z_top 37
abbrev Z_s__law_rows : Stmt := Z_top 38
abbrev Z_s__law_width : Stmt := Z_top 39
abbrev Z_s__law_rows_round : Stmt := Z_top 40
abbrev Z_s__law_cross : Stmt := Z_top 48
abbrev Z_s__law_least : Stmt := Z_top 41
abbrev Z_s__law_is_integer : Stmt := Z_top 31
abbrev Z_s_is_rest : Stmt := Z_top 19
abbrev Z_s_rest_sum : Stmt := Z_top 20
abbrev Z_s__law_are_weights : Stmt := Z_top 44
abbrev Z_s__law_weighed : Stmt := Z_top 45
abbrev Z_s__law_are_bars : Stmt := Z_top 46
abbrev Z_s__law_over : Stmt := Z_top 42
abbrev Z_s__law_closing : Stmt := Z_top 43
abbrev Z_s__law_indexes : Stmt := Z_top 49
abbrev Z_s__law_as_weights : Stmt := Z_top 50
abbrev Z_s__law_item_spoiled : Stmt := Z_top 54
abbrev Z_s__law_spoiled : Stmt := Z_top 55
abbrev Z_s_check_bound : Stmt := Z_top 18
abbrev Z_s_is_press : Stmt := Z_top 21
abbrev Z_s__law_are_press : Stmt := Z_top 47
abbrev Z_s__law_some_press : Stmt := Z_top 52
abbrev Z_s__law_bound_near : Stmt := Z_top 53
abbrev Z_s__law_press_spoiled : Stmt := Z_top 56
abbrev Z_s_law : Stmt := Z_top 57
def A_c_VECTORS (K : PySem.W.Frag) : Addr := adr (PySem.W.nsIn K mainGlobals "VECTORS")
def A_c_FloorError (K : PySem.W.Frag) : Addr := adr (PySem.W.nsIn K mainGlobals "FloorError")
def A_c_BadNumber (K : PySem.W.Frag) : Addr := adr (PySem.W.nsIn K mainGlobals "BadNumber")
def A_c_BadBounds (K : PySem.W.Frag) : Addr := adr (PySem.W.nsIn K mainGlobals "BadBounds")
def A_c_Root (K : PySem.W.Frag) : Addr := adr (PySem.W.nsIn K mainGlobals "Root")
def A_gAX (K : PySem.W.Frag) : Addr := adr (PySem.W.findIn K (.ref (A_c_Root K)) "__radd__")
def A_gSX (K : PySem.W.Frag) : Addr := adr (PySem.W.findIn K (.ref (A_c_Root K)) "__rsub__")
def A_gMX (K : PySem.W.Frag) : Addr := adr (PySem.W.findIn K (.ref (A_c_Root K)) "__rmul__")
def A_f_is_integral (K : PySem.W.Frag) : Addr := adr (PySem.W.nsIn K mainGlobals "is_integral")
def A_f_BadBounds_init (K : PySem.W.Frag) : Addr := adr (PySem.W.findIn K (.ref (A_c_BadBounds K)) "__init__")
def A_f_BadNumber_init (K : PySem.W.Frag) : Addr := adr (PySem.W.findIn K (.ref (A_c_BadNumber K)) "__init__")
def A_f_Root_init (K : PySem.W.Frag) : Addr := adr (PySem.W.findIn K (.ref (A_c_Root K)) "__init__")
def A_f_Root_eq (K : PySem.W.Frag) : Addr := adr (PySem.W.findIn K (.ref (A_c_Root K)) "__eq__")
def A_f_Root_neg (K : PySem.W.Frag) : Addr := adr (PySem.W.findIn K (.ref (A_c_Root K)) "__neg__")
def A_f_is_number (K : PySem.W.Frag) : Addr := adr (PySem.W.nsIn K mainGlobals "is_number")
def A_f_as_root (K : PySem.W.Frag) : Addr := adr (PySem.W.nsIn K mainGlobals "as_root")
def A_f_surd_sign (K : PySem.W.Frag) : Addr := adr (PySem.W.nsIn K mainGlobals "surd_sign")
def A_f_Root_add (K : PySem.W.Frag) : Addr := adr (PySem.W.findIn K (.ref (A_c_Root K)) "__add__")
def A_f_Root_sub (K : PySem.W.Frag) : Addr := adr (PySem.W.findIn K (.ref (A_c_Root K)) "__sub__")
def A_f_Root_mul (K : PySem.W.Frag) : Addr := adr (PySem.W.findIn K (.ref (A_c_Root K)) "__mul__")
def A_f_Root_radd (K : PySem.W.Frag) : Addr := adr (PySem.W.findIn K (.ref (A_c_Root K)) "__radd__")
def A_f_Root_rmul (K : PySem.W.Frag) : Addr := adr (PySem.W.findIn K (.ref (A_c_Root K)) "__rmul__")
def A_f_Root_rsub (K : PySem.W.Frag) : Addr := adr (PySem.W.findIn K (.ref (A_c_Root K)) "__rsub__")
def A_f_Root_less (K : PySem.W.Frag) : Addr := adr (PySem.W.findIn K (.ref (A_c_Root K)) "less")
def A_f_Root_sign (K : PySem.W.Frag) : Addr := adr (PySem.W.findIn K (.ref (A_c_Root K)) "sign")
def A_f_is_bound (K : PySem.W.Frag) : Addr := adr (PySem.W.nsIn K mainGlobals "is_bound")
def A_f_check_bounds (K : PySem.W.Frag) : Addr := adr (PySem.W.nsIn K mainGlobals "check_bounds")
def A_f__law_begin (K : PySem.W.Frag) : Addr := adr (PySem.W.nsIn K mainGlobals "_law_begin")
def A_f__law_draw (K : PySem.W.Frag) : Addr := adr (PySem.W.nsIn K mainGlobals "_law_draw")
def A_f__law_great (K : PySem.W.Frag) : Addr := adr (PySem.W.nsIn K mainGlobals "_law_great")
def A_f__law_number (K : PySem.W.Frag) : Addr := adr (PySem.W.nsIn K mainGlobals "_law_number")
def A_f__law_plus (K : PySem.W.Frag) : Addr := adr (PySem.W.nsIn K mainGlobals "_law_plus")
def A_f__law_scaled (K : PySem.W.Frag) : Addr := adr (PySem.W.nsIn K mainGlobals "_law_scaled")
def A_f__law_sign (K : PySem.W.Frag) : Addr := adr (PySem.W.nsIn K mainGlobals "_law_sign")
def A_f__law_compare (K : PySem.W.Frag) : Addr := adr (PySem.W.nsIn K mainGlobals "_law_compare")
def A_f__law_hand (K : PySem.W.Frag) : Addr := adr (PySem.W.nsIn K mainGlobals "_law_hand")
def A_f__law_handed (K : PySem.W.Frag) : Addr := adr (PySem.W.nsIn K mainGlobals "_law_handed")
def A_f__law_vector (K : PySem.W.Frag) : Addr := adr (PySem.W.nsIn K mainGlobals "_law_vector")
def A_f__law_along (K : PySem.W.Frag) : Addr := adr (PySem.W.nsIn K mainGlobals "_law_along")
def A_f__law_lets (K : PySem.W.Frag) : Addr := adr (PySem.W.nsIn K mainGlobals "_law_lets")
def A_f__law_in_all (K : PySem.W.Frag) : Addr := adr (PySem.W.nsIn K mainGlobals "_law_in_all")
def A_f__law_rows (K : PySem.W.Frag) : Addr := adr (PySem.W.nsIn K mainGlobals "_law_rows")
def A_f__law_width (K : PySem.W.Frag) : Addr := adr (PySem.W.nsIn K mainGlobals "_law_width")
def A_f__law_rows_round (K : PySem.W.Frag) : Addr := adr (PySem.W.nsIn K mainGlobals "_law_rows_round")
def A_f__law_cross (K : PySem.W.Frag) : Addr := adr (PySem.W.nsIn K mainGlobals "_law_cross")
def A_f__law_least (K : PySem.W.Frag) : Addr := adr (PySem.W.nsIn K mainGlobals "_law_least")
def A_f__law_is_integer (K : PySem.W.Frag) : Addr := adr (PySem.W.nsIn K mainGlobals "_law_is_integer")
def A_f_is_rest (K : PySem.W.Frag) : Addr := adr (PySem.W.nsIn K mainGlobals "is_rest")
def A_f_rest_sum (K : PySem.W.Frag) : Addr := adr (PySem.W.nsIn K mainGlobals "rest_sum")
def A_f__law_are_weights (K : PySem.W.Frag) : Addr := adr (PySem.W.nsIn K mainGlobals "_law_are_weights")
def A_f__law_weighed (K : PySem.W.Frag) : Addr := adr (PySem.W.nsIn K mainGlobals "_law_weighed")
def A_f__law_are_bars (K : PySem.W.Frag) : Addr := adr (PySem.W.nsIn K mainGlobals "_law_are_bars")
def A_f__law_over (K : PySem.W.Frag) : Addr := adr (PySem.W.nsIn K mainGlobals "_law_over")
def A_f__law_closing (K : PySem.W.Frag) : Addr := adr (PySem.W.nsIn K mainGlobals "_law_closing")
def A_f__law_indexes (K : PySem.W.Frag) : Addr := adr (PySem.W.nsIn K mainGlobals "_law_indexes")
def A_f__law_as_weights (K : PySem.W.Frag) : Addr := adr (PySem.W.nsIn K mainGlobals "_law_as_weights")
def A_f__law_item_spoiled (K : PySem.W.Frag) : Addr := adr (PySem.W.nsIn K mainGlobals "_law_item_spoiled")
def A_f__law_spoiled (K : PySem.W.Frag) : Addr := adr (PySem.W.nsIn K mainGlobals "_law_spoiled")
def A_f_check_bound (K : PySem.W.Frag) : Addr := adr (PySem.W.nsIn K mainGlobals "check_bound")
def A_f_is_press (K : PySem.W.Frag) : Addr := adr (PySem.W.nsIn K mainGlobals "is_press")
def A_f__law_are_press (K : PySem.W.Frag) : Addr := adr (PySem.W.nsIn K mainGlobals "_law_are_press")
def A_f__law_some_press (K : PySem.W.Frag) : Addr := adr (PySem.W.nsIn K mainGlobals "_law_some_press")
def A_f__law_bound_near (K : PySem.W.Frag) : Addr := adr (PySem.W.nsIn K mainGlobals "_law_bound_near")
def A_f__law_press_spoiled (K : PySem.W.Frag) : Addr := adr (PySem.W.nsIn K mainGlobals "_law_press_spoiled")
def A_f_law (K : PySem.W.Frag) : Addr := adr (PySem.W.nsIn K mainGlobals "law")
def nsK : List Str := (["FloorError", "BadNumber", "BadBounds", "Root", "VECTORS", "is_integral", "is_number", "as_root", "surd_sign", "is_bound", "check_bounds", "_law_begin", "_law_draw", "_law_great", "_law_number", "_law_plus", "_law_scaled", "_law_sign", "_law_compare", "_law_hand", "_law_handed", "_law_vector", "_law_along", "_law_lets", "_law_in_all", "_law_rows", "_law_width", "_law_rows_round", "_law_cross", "_law_least"] : List Str) ++ (["_law_is_integer", "is_rest", "rest_sum", "_law_are_weights", "_law_weighed", "_law_are_bars", "_law_over", "_law_closing", "_law_indexes", "_law_as_weights", "_law_item_spoiled", "_law_spoiled", "check_bound", "is_press", "_law_are_press", "_law_some_press", "_law_bound_near", "_law_press_spoiled", "law"] : List Str)
def namesK : List Str := (["gcd", "_wall", "__name__", "FloorError", "BadNumber", "BadBounds", "is_integral", "is_number", "as_root", "surd_sign", "Root", "VECTORS", "MOST_BOUNDS", "is_bound", "check_bounds", "check_bound", "is_rest", "rest_sum", "is_press", "_law_begin", "_law_draw", "_law_great", "_law_number", "_law_plus", "_law_scaled", "_law_sign", "_law_compare", "_law_is_integer", "_law_hand", "_law_handed"] : List Str) ++ (["_law_vector", "_law_along", "_law_lets", "_law_in_all", "_law_rows", "_law_width", "_law_rows_round", "_law_least", "_law_over", "_law_closing", "_law_are_weights", "_law_weighed", "_law_are_bars", "_law_are_press", "_law_cross", "_law_indexes", "_law_as_weights", "_law_some_bars", "_law_some_press", "_law_bound_near", "_law_item_spoiled", "_law_spoiled", "_law_press_spoiled"] : List Str)
def bs0 (K : PySem.W.Frag) : List Bool := [
  decide (isIntV (PySem.W.nsIn K mainGlobals "MOST_BOUNDS") 400 = true),
  isR (PySem.W.nsIn K mainGlobals "VECTORS"),
  decide (kdB K 8 (.ref (A_c_VECTORS K)) (.tuple [.tuple [.int 1, .int 0], .tuple [.int 1, .int 1], .tuple [.int 0, .int 1], .tuple [.int (-1), .int 1], .tuple [.int (-1), .int 0], .tuple [.int (-1), .int (-1)], .tuple [.int 0, .int (-1)], .tuple [.int 1, .int (-1)]]) = true),
  isR (PySem.W.nsIn K mainGlobals "FloorError"),
  isR (PySem.W.nsIn K mainGlobals "BadNumber"),
  isR (PySem.W.nsIn K mainGlobals "BadBounds"),
  isR (PySem.W.nsIn K mainGlobals "Root"),
  decide (PySem.W.nsIn K mainGlobals "gcd" = some (some (.builtin "math.gcd"))),
  decide (PySem.W.nsIn K mainGlobals "isinstance" = some none),
  decide (PySem.W.nsIn K mainGlobals "len" = some none),
  decide (PySem.W.nsIn K mainGlobals "tuple" = some none),
  decide (PySem.W.nsIn K mainGlobals "enumerate" = some none),
  decide (PySem.W.nsIn K mainGlobals "list" = some none),
  decide (PySem.W.nsIn K mainGlobals "int" = some none),
  decide (PySem.W.nsIn K mainGlobals "range" = some none),
  decide (PySem.W.nsIn K mainGlobals "bool" = some none),
  decide (PySem.W.nsIn K mainGlobals "sorted" = some none),
  decide (PySem.W.nsIn K mainGlobals "str" = some none),
  decide (PySem.W.nsIn K mainGlobals "max" = some none),
  decide (PySem.W.nsIn K mainGlobals "abs" = some none),
  decide (PySem.W.nsIn K mainGlobals "min" = some none),
  decide (PySem.W.plainGet K (A_c_Root K) Str.empty = true),
  decide (PySem.W.hasDictIn K (A_c_Root K) = true),
  decide (PySem.W.plainOver K (A_c_Root K) = true),
  decide (PySem.W.findIn K (.ref (A_c_Root K)) "__setattr__" = some (some (.builtin "object.__setattr__"))),
  decide (PySem.W.findIn K (.ref (A_c_Root K)) "__class__" = some (some (.builtin "object.__class__"))),
  decide (PySem.W.mroIn K (A_c_Root K) (.type "object") = some true),
  decide (PySem.W.isClsIn K (A_c_Root K) = true),
  decide (PySem.W.typeIn K (.ref (A_c_Root K)) = some (.type "type")),
  decide (PySem.W.mroIn K (A_c_Root K) (.type "int") = some false),
  decide (PySem.W.mroIn K (A_c_Root K) (.type "bool") = some false),
  decide (PySem.W.findIn K (.ref (A_c_Root K)) "top" = some none),
  decide (PySem.W.findIn K (.ref (A_c_Root K)) "root" = some none),
  decide (PySem.W.findIn K (.ref (A_c_Root K)) "bottom" = some none),
  decide (PySem.W.selfFirst K (A_c_Root K) = true),
  isR (PySem.W.findIn K (.ref (A_c_Root K)) "__radd__"),
  isR (PySem.W.findIn K (.ref (A_c_Root K)) "__rsub__"),
  isR (PySem.W.findIn K (.ref (A_c_Root K)) "__rmul__"),
  excB K (A_c_BadNumber K) (A_c_FloorError K) [.type "ValueError", .type "Exception", .type "BaseException", .type "object"] "ValueError.__new__",
  decide (PySem.W.findIn K (.ref (A_c_BadNumber K)) "__setattr__" = some (some (.builtin "object.__setattr__"))),
  decide (PySem.W.mroIn K (A_c_BadNumber K) (.type "BaseException") = some true),
  decide (PySem.W.typeIn K (.ref (A_c_BadNumber K)) = some (.type "type")),
  decide (PySem.W.keepIn K (.ref (A_c_BadNumber K)) = true),
  decide (PySem.W.findIn K (.ref (A_c_BadNumber K)) "value" = some none),
  decide (PySem.W.findIn K (.ref (A_c_BadNumber K)) "__getattribute__" = some (some (.builtin "BaseException.__getattribute__"))),
  decide (PySem.W.findIn K (.ref (A_c_BadNumber K)) "__getattr__" = some none),
  decide (PySem.W.hasDictIn K (A_c_BadNumber K) = true),
  decide (PySem.W.isClsIn K (A_c_BadNumber K) = true),
  decide (PySem.W.mroIn K (A_c_BadNumber K) (.ref (A_c_BadNumber K)) = some true),
  excB K (A_c_BadBounds K) (A_c_FloorError K) [.type "ValueError", .type "Exception", .type "BaseException", .type "object"] "ValueError.__new__",
  decide (PySem.W.findIn K (.ref (A_c_BadBounds K)) "__setattr__" = some (some (.builtin "object.__setattr__"))),
  decide (PySem.W.mroIn K (A_c_BadBounds K) (.type "BaseException") = some true),
  decide (PySem.W.typeIn K (.ref (A_c_BadBounds K)) = some (.type "type")),
  decide (PySem.W.keepIn K (.ref (A_c_BadBounds K)) = true),
  decide (PySem.W.findIn K (.ref (A_c_BadBounds K)) "index" = some none),
  decide (PySem.W.findIn K (.ref (A_c_BadBounds K)) "__getattribute__" = some (some (.builtin "BaseException.__getattribute__"))),
  decide (PySem.W.findIn K (.ref (A_c_BadBounds K)) "__getattr__" = some none),
  decide (PySem.W.hasDictIn K (A_c_BadBounds K) = true),
  decide (PySem.W.isClsIn K (A_c_BadBounds K) = true),
  decide (PySem.W.mroIn K (A_c_BadBounds K) (.ref (A_c_BadBounds K)) = some true),
  isR (PySem.W.nsIn K mainGlobals "is_integral"),
  decide (PySem.W.codeIn K (fdK K (A_f_is_integral K)).code "is_integral" = true),
  decide (PySem.W.keepIn K (.ref (A_f_is_integral K)) = true),
  isR (PySem.W.findIn K (.ref (A_c_BadBounds K)) "__init__"),
  decide (PySem.W.typeIn K (.ref (A_f_BadBounds_init K)) = some (.type "function")),
  decide (PySem.W.codeIn K (fdK K (A_f_BadBounds_init K)).code "BadBounds.__init__" = true),
  decide (PySem.W.keepIn K (.ref (A_f_BadBounds_init K)) = true),
  isR (PySem.W.findIn K (.ref (A_c_BadNumber K)) "__init__"),
  decide (PySem.W.typeIn K (.ref (A_f_BadNumber_init K)) = some (.type "function")),
  decide (PySem.W.codeIn K (fdK K (A_f_BadNumber_init K)).code "BadNumber.__init__" = true),
  decide (PySem.W.keepIn K (.ref (A_f_BadNumber_init K)) = true),
  isR (PySem.W.findIn K (.ref (A_c_Root K)) "__init__"),
  decide (PySem.W.isFn K (.ref (A_f_Root_init K)) = true),
  decide (PySem.W.makesIn K (A_c_Root K) = true),
  decide (PySem.W.keepIn K (.ref (A_c_Root K)) = true),
  decide (PySem.W.codeIn K (fdK K (A_f_Root_init K)).code "Root.__init__" = true),
  decide (PySem.W.keepIn K (.ref (A_f_Root_init K)) = true),
  isR (PySem.W.findIn K (.ref (A_c_Root K)) "__eq__"),
  decide (PySem.W.isFn K (.ref (A_f_Root_eq K)) = true),
  decide (PySem.W.codeIn K (fdK K (A_f_Root_eq K)).code "Root.__eq__" = true),
  decide (PySem.W.keepIn K (.ref (A_f_Root_eq K)) = true),
  isR (PySem.W.findIn K (.ref (A_c_Root K)) "__neg__"),
  decide (PySem.W.isFn K (.ref (A_f_Root_neg K)) = true),
  decide (PySem.W.codeIn K (fdK K (A_f_Root_neg K)).code "Root.__neg__" = true),
  decide (PySem.W.keepIn K (.ref (A_f_Root_neg K)) = true),
  isR (PySem.W.nsIn K mainGlobals "is_number"),
  decide (PySem.W.codeIn K (fdK K (A_f_is_number K)).code "is_number" = true),
  decide (PySem.W.keepIn K (.ref (A_f_is_number K)) = true),
  isR (PySem.W.nsIn K mainGlobals "as_root"),
  decide (PySem.W.codeIn K (fdK K (A_f_as_root K)).code "as_root" = true),
  decide (PySem.W.keepIn K (.ref (A_f_as_root K)) = true),
  isR (PySem.W.nsIn K mainGlobals "surd_sign"),
  decide (PySem.W.codeIn K (fdK K (A_f_surd_sign K)).code "surd_sign" = true),
  decide (PySem.W.keepIn K (.ref (A_f_surd_sign K)) = true),
  isR (PySem.W.findIn K (.ref (A_c_Root K)) "__add__"),
  decide (PySem.W.isFn K (.ref (A_f_Root_add K)) = true),
  decide (PySem.W.codeIn K (fdK K (A_f_Root_add K)).code "Root.__add__" = true),
  decide (PySem.W.keepIn K (.ref (A_f_Root_add K)) = true),
  isR (PySem.W.findIn K (.ref (A_c_Root K)) "__sub__"),
  decide (PySem.W.isFn K (.ref (A_f_Root_sub K)) = true)]
def bs1 (K : PySem.W.Frag) : List Bool := [
  decide (PySem.W.codeIn K (fdK K (A_f_Root_sub K)).code "Root.__sub__" = true),
  decide (PySem.W.keepIn K (.ref (A_f_Root_sub K)) = true),
  isR (PySem.W.findIn K (.ref (A_c_Root K)) "__mul__"),
  decide (PySem.W.isFn K (.ref (A_f_Root_mul K)) = true),
  decide (PySem.W.codeIn K (fdK K (A_f_Root_mul K)).code "Root.__mul__" = true),
  decide (PySem.W.keepIn K (.ref (A_f_Root_mul K)) = true),
  isR (PySem.W.findIn K (.ref (A_c_Root K)) "__radd__"),
  decide (PySem.W.isFn K (.ref (A_f_Root_radd K)) = true),
  decide (PySem.W.codeIn K (fdK K (A_f_Root_radd K)).code "Root.__radd__" = true),
  decide (PySem.W.keepIn K (.ref (A_f_Root_radd K)) = true),
  isR (PySem.W.findIn K (.ref (A_c_Root K)) "__rmul__"),
  decide (PySem.W.isFn K (.ref (A_f_Root_rmul K)) = true),
  decide (PySem.W.codeIn K (fdK K (A_f_Root_rmul K)).code "Root.__rmul__" = true),
  decide (PySem.W.keepIn K (.ref (A_f_Root_rmul K)) = true),
  isR (PySem.W.findIn K (.ref (A_c_Root K)) "__rsub__"),
  decide (PySem.W.isFn K (.ref (A_f_Root_rsub K)) = true),
  decide (PySem.W.codeIn K (fdK K (A_f_Root_rsub K)).code "Root.__rsub__" = true),
  decide (PySem.W.keepIn K (.ref (A_f_Root_rsub K)) = true),
  isR (PySem.W.findIn K (.ref (A_c_Root K)) "less"),
  decide (PySem.W.isFn K (.ref (A_f_Root_less K)) = true),
  decide (PySem.W.codeIn K (fdK K (A_f_Root_less K)).code "Root.less" = true),
  decide (PySem.W.keepIn K (.ref (A_f_Root_less K)) = true),
  isR (PySem.W.findIn K (.ref (A_c_Root K)) "sign"),
  decide (PySem.W.isFn K (.ref (A_f_Root_sign K)) = true),
  decide (PySem.W.codeIn K (fdK K (A_f_Root_sign K)).code "Root.sign" = true),
  decide (PySem.W.keepIn K (.ref (A_f_Root_sign K)) = true),
  isR (PySem.W.nsIn K mainGlobals "is_bound"),
  decide (PySem.W.codeIn K (fdK K (A_f_is_bound K)).code "is_bound" = true),
  decide (PySem.W.keepIn K (.ref (A_f_is_bound K)) = true),
  isR (PySem.W.nsIn K mainGlobals "check_bounds"),
  decide (PySem.W.codeIn K (fdK K (A_f_check_bounds K)).code "check_bounds" = true),
  decide (PySem.W.keepIn K (.ref (A_f_check_bounds K)) = true),
  isR (PySem.W.nsIn K mainGlobals "_law_begin"),
  decide (PySem.W.codeIn K (fdK K (A_f__law_begin K)).code "_law_begin" = true),
  decide (PySem.W.keepIn K (.ref (A_f__law_begin K)) = true),
  isR (PySem.W.nsIn K mainGlobals "_law_draw"),
  decide (PySem.W.codeIn K (fdK K (A_f__law_draw K)).code "_law_draw" = true),
  decide (PySem.W.keepIn K (.ref (A_f__law_draw K)) = true),
  isR (PySem.W.nsIn K mainGlobals "_law_great"),
  decide (PySem.W.codeIn K (fdK K (A_f__law_great K)).code "_law_great" = true),
  decide (PySem.W.keepIn K (.ref (A_f__law_great K)) = true),
  isR (PySem.W.nsIn K mainGlobals "_law_number"),
  decide (PySem.W.codeIn K (fdK K (A_f__law_number K)).code "_law_number" = true),
  decide (PySem.W.keepIn K (.ref (A_f__law_number K)) = true),
  isR (PySem.W.nsIn K mainGlobals "_law_plus"),
  decide (PySem.W.codeIn K (fdK K (A_f__law_plus K)).code "_law_plus" = true),
  decide (PySem.W.keepIn K (.ref (A_f__law_plus K)) = true),
  isR (PySem.W.nsIn K mainGlobals "_law_scaled"),
  decide (PySem.W.codeIn K (fdK K (A_f__law_scaled K)).code "_law_scaled" = true),
  decide (PySem.W.keepIn K (.ref (A_f__law_scaled K)) = true),
  isR (PySem.W.nsIn K mainGlobals "_law_sign"),
  decide (PySem.W.codeIn K (fdK K (A_f__law_sign K)).code "_law_sign" = true),
  decide (PySem.W.keepIn K (.ref (A_f__law_sign K)) = true),
  isR (PySem.W.nsIn K mainGlobals "_law_compare"),
  decide (PySem.W.codeIn K (fdK K (A_f__law_compare K)).code "_law_compare" = true),
  decide (PySem.W.keepIn K (.ref (A_f__law_compare K)) = true),
  isR (PySem.W.nsIn K mainGlobals "_law_hand"),
  decide (PySem.W.codeIn K (fdK K (A_f__law_hand K)).code "_law_hand" = true),
  decide (PySem.W.keepIn K (.ref (A_f__law_hand K)) = true),
  isR (PySem.W.nsIn K mainGlobals "_law_handed"),
  decide (PySem.W.codeIn K (fdK K (A_f__law_handed K)).code "_law_handed" = true),
  decide (PySem.W.keepIn K (.ref (A_f__law_handed K)) = true),
  isR (PySem.W.nsIn K mainGlobals "_law_vector"),
  decide (PySem.W.codeIn K (fdK K (A_f__law_vector K)).code "_law_vector" = true),
  decide (PySem.W.keepIn K (.ref (A_f__law_vector K)) = true),
  isR (PySem.W.nsIn K mainGlobals "_law_along"),
  decide (PySem.W.codeIn K (fdK K (A_f__law_along K)).code "_law_along" = true),
  decide (PySem.W.keepIn K (.ref (A_f__law_along K)) = true),
  isR (PySem.W.nsIn K mainGlobals "_law_lets"),
  decide (PySem.W.codeIn K (fdK K (A_f__law_lets K)).code "_law_lets" = true),
  decide (PySem.W.keepIn K (.ref (A_f__law_lets K)) = true),
  isR (PySem.W.nsIn K mainGlobals "_law_in_all"),
  decide (PySem.W.codeIn K (fdK K (A_f__law_in_all K)).code "_law_in_all" = true),
  decide (PySem.W.keepIn K (.ref (A_f__law_in_all K)) = true),
  isR (PySem.W.nsIn K mainGlobals "_law_rows"),
  decide (PySem.W.codeIn K (fdK K (A_f__law_rows K)).code "_law_rows" = true),
  decide (PySem.W.keepIn K (.ref (A_f__law_rows K)) = true),
  isR (PySem.W.nsIn K mainGlobals "_law_width"),
  decide (PySem.W.codeIn K (fdK K (A_f__law_width K)).code "_law_width" = true),
  decide (PySem.W.keepIn K (.ref (A_f__law_width K)) = true),
  isR (PySem.W.nsIn K mainGlobals "_law_rows_round"),
  decide (PySem.W.codeIn K (fdK K (A_f__law_rows_round K)).code "_law_rows_round" = true),
  decide (PySem.W.keepIn K (.ref (A_f__law_rows_round K)) = true),
  isR (PySem.W.nsIn K mainGlobals "_law_cross"),
  decide (PySem.W.codeIn K (fdK K (A_f__law_cross K)).code "_law_cross" = true),
  decide (PySem.W.keepIn K (.ref (A_f__law_cross K)) = true),
  isR (PySem.W.nsIn K mainGlobals "_law_least"),
  decide (PySem.W.codeIn K (fdK K (A_f__law_least K)).code "_law_least" = true),
  decide (PySem.W.keepIn K (.ref (A_f__law_least K)) = true),
  isR (PySem.W.nsIn K mainGlobals "_law_is_integer"),
  decide (PySem.W.codeIn K (fdK K (A_f__law_is_integer K)).code "_law_is_integer" = true),
  decide (PySem.W.keepIn K (.ref (A_f__law_is_integer K)) = true),
  isR (PySem.W.nsIn K mainGlobals "is_rest"),
  decide (PySem.W.codeIn K (fdK K (A_f_is_rest K)).code "is_rest" = true),
  decide (PySem.W.keepIn K (.ref (A_f_is_rest K)) = true),
  isR (PySem.W.nsIn K mainGlobals "rest_sum"),
  decide (PySem.W.codeIn K (fdK K (A_f_rest_sum K)).code "rest_sum" = true),
  decide (PySem.W.keepIn K (.ref (A_f_rest_sum K)) = true),
  isR (PySem.W.nsIn K mainGlobals "_law_are_weights"),
  decide (PySem.W.codeIn K (fdK K (A_f__law_are_weights K)).code "_law_are_weights" = true)]
def bs2 (K : PySem.W.Frag) : List Bool := [
  decide (PySem.W.keepIn K (.ref (A_f__law_are_weights K)) = true),
  isR (PySem.W.nsIn K mainGlobals "_law_weighed"),
  decide (PySem.W.codeIn K (fdK K (A_f__law_weighed K)).code "_law_weighed" = true),
  decide (PySem.W.keepIn K (.ref (A_f__law_weighed K)) = true),
  isR (PySem.W.nsIn K mainGlobals "_law_are_bars"),
  decide (PySem.W.codeIn K (fdK K (A_f__law_are_bars K)).code "_law_are_bars" = true),
  decide (PySem.W.keepIn K (.ref (A_f__law_are_bars K)) = true),
  isR (PySem.W.nsIn K mainGlobals "_law_over"),
  decide (PySem.W.codeIn K (fdK K (A_f__law_over K)).code "_law_over" = true),
  decide (PySem.W.keepIn K (.ref (A_f__law_over K)) = true),
  isR (PySem.W.nsIn K mainGlobals "_law_closing"),
  decide (PySem.W.codeIn K (fdK K (A_f__law_closing K)).code "_law_closing" = true),
  decide (PySem.W.keepIn K (.ref (A_f__law_closing K)) = true),
  isR (PySem.W.nsIn K mainGlobals "_law_indexes"),
  decide (PySem.W.codeIn K (fdK K (A_f__law_indexes K)).code "_law_indexes" = true),
  decide (PySem.W.keepIn K (.ref (A_f__law_indexes K)) = true),
  isR (PySem.W.nsIn K mainGlobals "_law_as_weights"),
  decide (PySem.W.codeIn K (fdK K (A_f__law_as_weights K)).code "_law_as_weights" = true),
  decide (PySem.W.keepIn K (.ref (A_f__law_as_weights K)) = true),
  isR (PySem.W.nsIn K mainGlobals "_law_item_spoiled"),
  decide (PySem.W.codeIn K (fdK K (A_f__law_item_spoiled K)).code "_law_item_spoiled" = true),
  decide (PySem.W.keepIn K (.ref (A_f__law_item_spoiled K)) = true),
  isR (PySem.W.nsIn K mainGlobals "_law_spoiled"),
  decide (PySem.W.codeIn K (fdK K (A_f__law_spoiled K)).code "_law_spoiled" = true),
  decide (PySem.W.keepIn K (.ref (A_f__law_spoiled K)) = true),
  isR (PySem.W.nsIn K mainGlobals "check_bound"),
  decide (PySem.W.codeIn K (fdK K (A_f_check_bound K)).code "check_bound" = true),
  decide (PySem.W.keepIn K (.ref (A_f_check_bound K)) = true),
  isR (PySem.W.nsIn K mainGlobals "is_press"),
  decide (PySem.W.codeIn K (fdK K (A_f_is_press K)).code "is_press" = true),
  decide (PySem.W.keepIn K (.ref (A_f_is_press K)) = true),
  isR (PySem.W.nsIn K mainGlobals "_law_are_press"),
  decide (PySem.W.codeIn K (fdK K (A_f__law_are_press K)).code "_law_are_press" = true),
  decide (PySem.W.keepIn K (.ref (A_f__law_are_press K)) = true),
  isR (PySem.W.nsIn K mainGlobals "_law_some_press"),
  decide (PySem.W.codeIn K (fdK K (A_f__law_some_press K)).code "_law_some_press" = true),
  decide (PySem.W.keepIn K (.ref (A_f__law_some_press K)) = true),
  isR (PySem.W.nsIn K mainGlobals "_law_bound_near"),
  decide (PySem.W.codeIn K (fdK K (A_f__law_bound_near K)).code "_law_bound_near" = true),
  decide (PySem.W.keepIn K (.ref (A_f__law_bound_near K)) = true),
  isR (PySem.W.nsIn K mainGlobals "_law_press_spoiled"),
  decide (PySem.W.codeIn K (fdK K (A_f__law_press_spoiled K)).code "_law_press_spoiled" = true),
  decide (PySem.W.keepIn K (.ref (A_f__law_press_spoiled K)) = true),
  isR (PySem.W.nsIn K mainGlobals "law"),
  decide (PySem.W.codeIn K (fdK K (A_f_law K)).code "law" = true),
  decide (PySem.W.keepIn K (.ref (A_f_law K)) = true)]
def fs0 (K : PySem.W.Frag) : List FnT := [
  fnT K (A_f_is_integral K),
  fnT K (A_f_BadBounds_init K),
  fnT K (A_f_BadNumber_init K),
  fnT K (A_f_Root_init K),
  fnT K (A_f_Root_eq K),
  fnT K (A_f_Root_neg K),
  fnT K (A_f_is_number K),
  fnT K (A_f_as_root K),
  fnT K (A_f_surd_sign K),
  fnT K (A_f_Root_add K),
  fnT K (A_f_Root_sub K),
  fnT K (A_f_Root_mul K),
  fnT K (A_f_Root_radd K),
  fnT K (A_f_Root_rmul K),
  fnT K (A_f_Root_rsub K),
  fnT K (A_f_Root_less K),
  fnT K (A_f_Root_sign K),
  fnT K (A_f_is_bound K),
  fnT K (A_f_check_bounds K),
  fnT K (A_f__law_begin K),
  fnT K (A_f__law_draw K),
  fnT K (A_f__law_great K),
  fnT K (A_f__law_number K),
  fnT K (A_f__law_plus K),
  fnT K (A_f__law_scaled K),
  fnT K (A_f__law_sign K),
  fnT K (A_f__law_compare K),
  fnT K (A_f__law_hand K),
  fnT K (A_f__law_handed K),
  fnT K (A_f__law_vector K),
  fnT K (A_f__law_along K),
  fnT K (A_f__law_lets K),
  fnT K (A_f__law_in_all K),
  fnT K (A_f__law_rows K),
  fnT K (A_f__law_width K),
  fnT K (A_f__law_rows_round K),
  fnT K (A_f__law_cross K),
  fnT K (A_f__law_least K),
  fnT K (A_f__law_is_integer K),
  fnT K (A_f_is_rest K)]
def ws0 : List FnT := [
  fnE "is_integral" "is_integral" Z_s_is_integral,
  fnE "__init__" "BadBounds.__init__" Z_s_BadBounds_init,
  fnE "__init__" "BadNumber.__init__" Z_s_BadNumber_init,
  fnE "__init__" "Root.__init__" Z_s_Root_init,
  fnE "__eq__" "Root.__eq__" Z_s_Root_eq,
  fnE "__neg__" "Root.__neg__" Z_s_Root_neg,
  fnE "is_number" "is_number" Z_s_is_number,
  fnE "as_root" "as_root" Z_s_as_root,
  fnE "surd_sign" "surd_sign" Z_s_surd_sign,
  fnE "__add__" "Root.__add__" Z_s_Root_add,
  fnE "__sub__" "Root.__sub__" Z_s_Root_sub,
  fnE "__mul__" "Root.__mul__" Z_s_Root_mul,
  fnE "__radd__" "Root.__radd__" Z_s_Root_radd,
  fnE "__rmul__" "Root.__rmul__" Z_s_Root_rmul,
  fnE "__rsub__" "Root.__rsub__" Z_s_Root_rsub,
  fnE "less" "Root.less" Z_s_Root_less,
  fnE "sign" "Root.sign" Z_s_Root_sign,
  fnE "is_bound" "is_bound" Z_s_is_bound,
  fnE "check_bounds" "check_bounds" Z_s_check_bounds,
  fnE "_law_begin" "_law_begin" Z_s__law_begin,
  fnE "_law_draw" "_law_draw" Z_s__law_draw,
  fnE "_law_great" "_law_great" Z_s__law_great,
  fnE "_law_number" "_law_number" Z_s__law_number,
  fnE "_law_plus" "_law_plus" Z_s__law_plus,
  fnE "_law_scaled" "_law_scaled" Z_s__law_scaled,
  fnE "_law_sign" "_law_sign" Z_s__law_sign,
  fnE "_law_compare" "_law_compare" Z_s__law_compare,
  fnE "_law_hand" "_law_hand" Z_s__law_hand,
  fnE "_law_handed" "_law_handed" Z_s__law_handed,
  fnE "_law_vector" "_law_vector" Z_s__law_vector,
  fnE "_law_along" "_law_along" Z_s__law_along,
  fnE "_law_lets" "_law_lets" Z_s__law_lets,
  fnE "_law_in_all" "_law_in_all" Z_s__law_in_all,
  fnE "_law_rows" "_law_rows" Z_s__law_rows,
  fnE "_law_width" "_law_width" Z_s__law_width,
  fnE "_law_rows_round" "_law_rows_round" Z_s__law_rows_round,
  fnE "_law_cross" "_law_cross" Z_s__law_cross,
  fnE "_law_least" "_law_least" Z_s__law_least,
  fnE "_law_is_integer" "_law_is_integer" Z_s__law_is_integer,
  fnE "is_rest" "is_rest" Z_s_is_rest]
def fs1 (K : PySem.W.Frag) : List FnT := [
  fnT K (A_f_rest_sum K),
  fnT K (A_f__law_are_weights K),
  fnT K (A_f__law_weighed K),
  fnT K (A_f__law_are_bars K),
  fnT K (A_f__law_over K),
  fnT K (A_f__law_closing K),
  fnT K (A_f__law_indexes K),
  fnT K (A_f__law_as_weights K),
  fnT K (A_f__law_item_spoiled K),
  fnT K (A_f__law_spoiled K),
  fnT K (A_f_check_bound K),
  fnT K (A_f_is_press K),
  fnT K (A_f__law_are_press K),
  fnT K (A_f__law_some_press K),
  fnT K (A_f__law_bound_near K),
  fnT K (A_f__law_press_spoiled K),
  fnT K (A_f_law K)]
def ws1 : List FnT := [
  fnE "rest_sum" "rest_sum" Z_s_rest_sum,
  fnE "_law_are_weights" "_law_are_weights" Z_s__law_are_weights,
  fnE "_law_weighed" "_law_weighed" Z_s__law_weighed,
  fnE "_law_are_bars" "_law_are_bars" Z_s__law_are_bars,
  fnE "_law_over" "_law_over" Z_s__law_over,
  fnE "_law_closing" "_law_closing" Z_s__law_closing,
  fnE "_law_indexes" "_law_indexes" Z_s__law_indexes,
  fnE "_law_as_weights" "_law_as_weights" Z_s__law_as_weights,
  fnE "_law_item_spoiled" "_law_item_spoiled" Z_s__law_item_spoiled,
  fnE "_law_spoiled" "_law_spoiled" Z_s__law_spoiled,
  fnE "check_bound" "check_bound" Z_s_check_bound,
  fnE "is_press" "is_press" Z_s_is_press,
  fnE "_law_are_press" "_law_are_press" Z_s__law_are_press,
  fnE "_law_some_press" "_law_some_press" Z_s__law_some_press,
  fnE "_law_bound_near" "_law_bound_near" Z_s__law_bound_near,
  fnE "_law_press_spoiled" "_law_press_spoiled" Z_s__law_press_spoiled,
  fnE "law" "law" Z_s_law]
def bsK (K : PySem.W.Frag) : List Bool := bs0 K ++ (bs1 K ++ (bs2 K ++ ([])))
def fsK (K : PySem.W.Frag) : List FnT := fs0 K ++ (fs1 K ++ ([]))
def wsK : List FnT := ws0 ++ (ws1 ++ ([]))
theorem run0 (w : World) : HandSHeadRun.RunEqI (PySem.W.OpenLaw.row PySem.Challenge.rw_threetiles_k25_presses_judged) (PySem.W.view (PySem.W.OpenLaw.row PySem.Challenge.rw_threetiles_k25_presses_judged).prog [57]) (hookF nsK (fun _ => []) (fun _ => []) []) (obF nsK (fun _ => []) (fun _ => [])) 20000 namesK w := by
  unfold HandSHeadRun.RunEqI
  kernel_rfl
theorem runB0 (w : World) : RunB (PySem.W.OpenLaw.row PySem.Challenge.rw_threetiles_k25_presses_judged) 20000 w nsK bs0 := by
  unfold RunB
  kernel_rfl
theorem runB1 (w : World) : RunB (PySem.W.OpenLaw.row PySem.Challenge.rw_threetiles_k25_presses_judged) 20000 w nsK bs1 := by
  unfold RunB
  kernel_rfl
theorem runB2 (w : World) : RunB (PySem.W.OpenLaw.row PySem.Challenge.rw_threetiles_k25_presses_judged) 20000 w nsK bs2 := by
  unfold RunB
  kernel_rfl
theorem runF0 (w : World) : RunF (PySem.W.OpenLaw.row PySem.Challenge.rw_threetiles_k25_presses_judged) 20000 w nsK fs0 ws0 := by
  unfold RunF
  kernel_rfl
theorem runF1 (w : World) : RunF (PySem.W.OpenLaw.row PySem.Challenge.rw_threetiles_k25_presses_judged) 20000 w nsK fs1 ws1 := by
  unfold RunF
  kernel_rfl
theorem runH (w : World) : HandSHeadRun.RunEqI (PySem.W.OpenLaw.row PySem.Challenge.rw_threetiles_k25_presses_judged) (PySem.W.view (PySem.W.OpenLaw.row PySem.Challenge.rw_threetiles_k25_presses_judged).prog [57]) (hookF nsK bsK fsK wsK) (obF nsK bsK fsK) 20000 namesK w :=
  run_f (run_f (run_b (run_b (run_b (run0 w) (runB2 w)) (runB1 w)) (runB0 w)) (runF1 w)) (runF0 w)
end L2.My

/-! W0: what all my proofs share: callees by name (Has), steps that walk a reading (walk_at "w"), wide rules. -/
namespace L2.My
open PySem PySem.Spec PyProof.Rows

/-! ### callees by name -/
section
variable (P : Program) (w : World) (K : PySem.W.Frag) (mg : Str → Option Value) (base : Heap)
/-- a def of the module that keeps a promise -/
def Has (x : Str) (k : Nat) (ps : List Str) (sp : Sp) : Prop :=
  ∃ f fd, FnOk P w K mg base (L2.CX P w) k f fd ps sp ∧ mg x = some (.ref f) ∧ PySem.W.keepIn K (.ref f) = true ∧ Binds K fd ps []
/-- a method -/
def HasM (C : Addr) (m : Str) (k : Nat) (ps : List Str) (sp : Sp) : Prop :=
  ∃ f fd, FnOk P w K mg base (L2.CX P w) k f fd ps sp ∧ Meth K C m f ∧ Binds K fd ps []
/-- a class that is made -/
def HasC (x : Str) (C : Addr) (k : Nat) (ps : List Str) (sp : Sp) : Prop :=
  ∃ f fd, FnOk P w K mg base (L2.CX P w) k f fd ps sp ∧ Mk K C f ∧ mg x = some (.ref C) ∧ Binds K fd ps []
end
section
variable {X : Cx} {x m : Str} {k j : Nat} {ps : List Str} {sp : Sp} {E : St → XK} {e o : Expr} {es : List Expr} {t : TA} {ta : TE} {p pos apos : Pos} {C f : Addr} {fd : FuncData}
/-- nothing is let out -/
theorem pa0 : ∀ σ, PassesAt (L2.CX X.prog X.w) X σ ((fun _ => E0 : St → XK) σ) := fun σ pins H s e s' I h => passL pins σ H s e s' I h
/-- what is wished at the slots -/
theorem paW {W : WX} (tk : Takes X W) : ∀ σ, PassesAt (L2.CX X.prog X.w) X σ (WE W σ) := fun σ => passAt tk σ
/-- what the def wishes of an exception -/
abbrev ED (E : XK) : St → XK := WE (fun cls d _ H => E cls d H)
theorem pe_h (h : Has X.prog X.w X.K X.mg X.base x k ps sp) (hr : Room j X.A) (hx : ∀ σ, PassesAt (L2.CX X.prog X.w) X σ (E σ)) (ha : PA X (e :: es) t) (hj : k ≤ j := by decide) (hg : Gl X x := by rfl) (hdb : (x == ("__debug__" : Str)) = false := by decide)
    (he : starEach (e :: es) X.env = (false, eval e X.env) :: starEach es X.env := by rfl) (hpl : (backTo pos (starEach es X.env)).any (·.1) = false := by rfl) :
    PE X (.Call (.Name x p) (e :: es) [] pos) (tCallS sp E t) := by
  obtain ⟨f, fd, F, hm, hk, hb⟩ := h
  exact pe_callS F (hr.mono hj) hg hm hk hb hx ha hdb he hpl
theorem pe_h0 (h : Has X.prog X.w X.K X.mg X.base x k ps sp) (hr : Room j X.A) (hx : ∀ σ, PassesAt (L2.CX X.prog X.w) X σ (E σ)) (hj : k ≤ j := by decide) (hg : Gl X x := by rfl) (hdb : (x == ("__debug__" : Str)) = false := by decide) :
    PE X (.Call (.Name x p) [] [] pos) (tCallS sp E tNil) := by
  obtain ⟨f, fd, F, hm, hk, hb⟩ := h
  refine ⟨fun pins s σ H Q I hh => ?_⟩
  refine wpAny_Call_Name_kw (ld_glob I hg hm ?_ hdb)
  exact PySem.W.callWith_K0 I.kIn hk (run_fnS (us := []) F (hr.mono hj) hb (hx σ) I .nil hh)
/-- C(..) -/
theorem run_makeS {pins : List (Addr × Obj)} {σ : St} {H : Hp} {s : Shared} {Q : VK} {us : List Value} {vs : List V} (M : Mk X.K C f) (F : FnOk X.prog X.w X.K X.mg X.base (L2.CX X.prog X.w) k f fd ps sp) (hr : Room (k + 1) X.A) (hb : Binds X.K fd ps [])
    (hx : PassesAt (L2.CX X.prog X.w) X σ (E σ)) (I : Inv X pins σ H s) (r : Vals vs us)
    (h : ∀ x dx, H x = none → H dx = none → dx ≠ x → sp (.ref x :: vs) (upd (upd H dx (.own x)) x (.ins C dx [])) (fun v H2 => v = .non ∧ Q (.ref x) H2) (E σ)) :
    wpAny (model X.prog X.w) X.A (call (.ref C) us) (EP X pins σ Q) X.xe s := by
  have hq := h (s.heap.objs.size + 1) s.heap.objs.size (I.hok.fresh (Nat.le_succ _)) (I.hok.fresh (Nat.le_refl _)) (Nat.ne_of_lt (Nat.lt_succ_self _))
  have I2 := Inv.made (C := C) I
  have r2 : Vals (V.ref (s.heap.objs.size + 1) :: vs) (Value.ref (s.heap.objs.size + 1) :: us) := .cons rfl r
  have hl : (Value.ref (s.heap.objs.size + 1) :: us).length = ps.length := by
    have e := r2.length
    rw [F.len _ _ _ _ hq] at e
    exact e.symm
  have bb := hb _ (Value.ref (s.heap.objs.size + 1) :: us) I2.kIn (by rw [List.append_nil]; exact hl)
  rw [List.append_nil] at bb
  refine wpAny_call (make_map (f := f) I.kIn M.makes M.init (beq_iff_eq.mp M.fn) (codeAny_mono (F.run _ X.stack _ _ ⟨Value.ref (s.heap.objs.size + 1) :: us, []⟩ (Value.ref (s.heap.objs.size + 1) :: us) _ _ (E σ) (hr.make C us [])
    (I2.env0.make C us []) bb r2 hq) fun r s' hq' => ?_))
  cases r with
  | error e => exact hx pins _ _ e s' I2 hq'
  | ok fl =>
    cases fl with
    | ret u =>
      obtain ⟨v, H', I3, rv, ev, q3⟩ := I2.after hq'
      subst ev
      exact ⟨rv, ⟨V.ref (s.heap.objs.size + 1), H', I3, rfl, q3⟩⟩
    | next => exact False.elim hq'
    | brk => exact False.elim hq'
    | cont => exact False.elim hq'
def tMakeS (C : Addr) (sp : Sp) (E : St → XK) (t : TA) : TE := fun σ H Q => t σ H fun vs H1 => ∀ x dx, H1 x = none → H1 dx = none → dx ≠ x →
  sp (.ref x :: vs) (upd (upd H1 dx (.own x)) x (.ins C dx [])) (fun v H2 => v = .non ∧ Q (.ref x) H2) (E σ)
theorem pe_hc (h : HasC X.prog X.w X.K X.mg X.base x C k ps sp) (hr : Room j X.A) (hx : ∀ σ, PassesAt (L2.CX X.prog X.w) X σ (E σ)) (ha : PA X (e :: es) t) (hj : k + 1 ≤ j := by decide) (hg : Gl X x := by rfl) (hdb : (x == ("__debug__" : Str)) = false := by decide)
    (he : starEach (e :: es) X.env = (false, eval e X.env) :: starEach es X.env := by rfl) (hpl : (backTo pos (starEach es X.env)).any (·.1) = false := by rfl) :
    PE X (.Call (.Name x p) (e :: es) [] pos) (tMakeS C sp E t) := by
  obtain ⟨f, fd, F, M, hm, hb⟩ := h
  refine ⟨fun pins s σ H Q I h => ?_⟩
  refine wpAny_Call_Name_kw (ld_glob I hg hm ?_ hdb)
  refine PySem.W.callWith_K (h₀ := X.base) I.ok.mod.kin M.kp (thn (ha.run pos pins s σ H _ I h) fun us s1 ⟨vs, H1, I1, r, q⟩ => ⟨I1.kIn, ?_⟩) he hpl
  exact run_makeS M F (hr.mono hj) hb (hx σ) I1 r q
/-- o.m(..) -/
def tMethS (C : Addr) (m : Str) (sp : Sp) (E : St → XK) (ta : TE) (t : TA) : TE := fun σ H Q => ta σ H fun x H1 => ∃ a dx fs, x = .ref a ∧ H1 a = some (.ins C dx fs) ∧ fs.lookup m = none ∧
  t σ H1 fun vs H2 => sp (x :: vs) H2 Q (E σ)
theorem pe_hm {pl : Sem Bool} (h : HasM X.prog X.w X.K X.mg X.base C m k ps sp) (c : Cls X.K C) (hr : Room j X.A) (hx : ∀ σ, PassesAt (L2.CX X.prog X.w) X σ (E σ)) (ho : PE X o ta) (ha : PA X (e :: es) t) (hj : k ≤ j := by decide)
    (hst : starEach (e :: es) X.env = (false, eval e X.env) :: starEach es X.env := by rfl) (hpl : (backTo pos (starEach es X.env)).any (·.1) = false := by rfl)
    (ht : eval (.Call (.Attribute o m apos) (e :: es) [] pos) X.env = (do
      let ov ← eval o X.env
      standAt apos.atName
      let (f, first) ← holding [ov] (getMethod ov m pl)
      callWith pos f first (backTo pos (starEach (e :: es) X.env)) (backToKw pos (keywordEach [] X.env))) := by rfl) :
    PE X (.Call (.Attribute o m apos) (e :: es) [] pos) (tMethS C m sp E ta t) := by
  obtain ⟨f, fd, F, hm, hb⟩ := h
  refine ⟨fun pins s σ H Q I h => ?_⟩
  refine PySem.W.methodCall_KW (pl := pl) (thn (ho.run pins s σ H _ I h) fun u s1 ⟨x, H1, I1, rx, a, dx, fs, ex, ea, l, q⟩ => ?_) ht
  subst ex
  obtain rfl : u = Value.ref a := rx
  refine getmeth_ok I1 ea c hm l ?_
  refine PySem.W.callWith_K (first := [.ref a]) (h₀ := X.base) I.ok.mod.kin hm.kp (thn (ha.run pos pins s1 σ H1 _ I1 q) fun us s2 ⟨vs, H2, I2, r, q2⟩ => ⟨I2.kIn, ?_⟩) hst hpl
  exact run_fnS (us := .ref a :: us) (vs := .ref a :: vs) F (hr.mono hj) hb (hx σ) I2 (.cons rfl r) q2
theorem pe_hm0 {pl : Sem Bool} (h : HasM X.prog X.w X.K X.mg X.base C m k ps sp) (c : Cls X.K C) (hr : Room j X.A) (hx : ∀ σ, PassesAt (L2.CX X.prog X.w) X σ (E σ)) (ho : PE X o ta) (hj : k ≤ j := by decide)
    (ht : eval (.Call (.Attribute o m apos) [] [] pos) X.env = (do
      let ov ← eval o X.env
      standAt apos.atName
      let (f, first) ← holding [ov] (getMethod ov m pl)
      callWith pos f first (backTo pos (starEach [] X.env)) (backToKw pos (keywordEach [] X.env))) := by rfl) :
    PE X (.Call (.Attribute o m apos) [] [] pos) (tMethS C m sp E ta tNil) := by
  obtain ⟨f, fd, F, hm, hb⟩ := h
  refine ⟨fun pins s σ H Q I h => ?_⟩
  refine PySem.W.methodCall_KW (pl := pl) (thn (ho.run pins s σ H _ I h) fun u s1 ⟨x, H1, I1, rx, a, dx, fs, ex, ea, l, q⟩ => ?_) ht
  subst ex
  obtain rfl : u = Value.ref a := rx
  refine getmeth_ok I1 ea c hm l ?_
  exact PySem.W.callWith_K0 (first := [.ref a]) I1.kIn hm.kp (run_fnS (us := [.ref a]) (vs := [.ref a]) F (hr.mono hj) hb (hx σ) I1 (.cons rfl .nil) q)
end

/-! ### numbers of any size -/
/-- // by what is not 0, below 2 ^ 9000 in size -/
def CDivN9 (_ j : Int) : Prop := j ≠ 0 ∧ j.natAbs.log2 < 9000
section
variable {X : Cx}
theorem op_fdivV : OpR X (binaryOp .FloorDiv) (rI CDivN9 fun i j => .int (i.fdiv j)) := opI fun i j _ _ _ _ _ hc q =>
  floordiv_int hc.1 q (.inl (PyProof.noPylong_of_log2 hc.2))
end

/-! ### steps that walk a reading -/
section
variable {σ σ' : St} {H : Hp} {v x y : V} {i j : Int} {n : Nat} {b : Bool} {ta tb te : TE} {t u : TT} {ts us : TS} {r : R2} {D : Ends} {Q : VK} {QB : Bool → Hp → Prop} {QL : List V → Hp → Prop} {tl : TA}
theorem w_var (h : σ[n]? = some (some v)) (q : Q v H) : tVar n σ H Q := ⟨v, h, q⟩
theorem w_c (q : Q v H) : tC v σ H Q := q
theorem w_op (q : ta σ H fun x H1 => tb σ H1 fun y H2 => r x y H2 Q) : tOp r ta tb σ H Q := q
theorem w_un {r : V → Hp → VK → Prop} (q : ta σ H fun x H1 => r x H1 Q) : tUn r ta σ H Q := q
theorem w_I0 {g : Int → Int → V} (q : Q (g i j) H) : rI0 g (.int i) (.int j) H Q := ⟨i, j, rfl, rfl, q⟩
theorem w_I {C : Int → Int → Prop} {g : Int → Int → V} (c : C i j) (q : Q (g i j) H) : rI C g (.int i) (.int j) H Q := ⟨i, j, rfl, rfl, c, q⟩
theorem w_U {g : Int → V} (q : Q (g i) H) : rU g (.int i) H Q := ⟨i, rfl, q⟩
theorem w_eq (h : scal x y = true) (q : Q (.bl (decide (x = y))) H) : rEq x y H Q := ⟨h, q⟩
theorem w_ne (h : scal x y = true) (q : Q (.bl (!decide (x = y))) H) : rNe x y H Q := ⟨h, q⟩
theorem w_test (q : te σ H fun x H' => ∃ k, x = .bl k ∧ QB k H') : tTest te σ H QB := q
theorem w_B (q : te σ H fun x H' => ∃ k, x = .bl k ∧ QB k H') : tB te σ H QB := q
theorem w_bl (q : QB b H) : ∃ k, V.bl b = .bl k ∧ QB k H := ⟨b, rfl, q⟩
theorem w_and (q : t σ H fun c H1 => if c = true then u σ H1 QB else QB false H1) : tAnd t u σ H QB := q
theorem w_or (q : t σ H fun c H1 => if c = true then QB true H1 else u σ H1 QB) : tOr t u σ H QB := q
theorem w_not (q : t σ H fun c H1 => QB (!c) H1) : tNot t σ H QB := q
theorem w_andV (q : ta σ H fun x H1 => ∃ c, x = .bl c ∧ if c = true then tb σ H1 Q else Q (.bl false) H1) : tAndV ta tb σ H Q := q
theorem w_orV (q : ta σ H fun x H1 => ∃ c, x = .bl c ∧ if c = true then Q (.bl true) H1 else tb σ H1 Q) : tOrV ta tb σ H Q := q
theorem w_notV (q : ta σ H fun x H1 => ∃ c, x = .bl c ∧ Q (.bl (!c)) H1) : tNotV ta σ H Q := q
theorem w_blV {p : Bool → Prop} (q : p b) : ∃ c, V.bl b = .bl c ∧ p c := ⟨b, rfl, q⟩
theorem w_seq {nx bk ct : L2.St → Hp → Prop} {rt : VK} (q : ts ⟨us ⟨nx, rt, bk, ct⟩, rt, bk, ct⟩ σ H) : tSeq ts us ⟨nx, rt, bk, ct⟩ σ H := q
theorem w_next {nx bk ct : L2.St → Hp → Prop} {rt : VK} (q : nx σ H) : tNext ⟨nx, rt, bk, ct⟩ σ H := q
theorem w_asg {g : TG} {nx bk ct : L2.St → Hp → Prop} {rt : VK} (q : te σ H fun x H1 => g x σ H1 nx) : tAsg te g ⟨nx, rt, bk, ct⟩ σ H := q
theorem w_drop {nx bk ct : L2.St → Hp → Prop} {rt : VK} (q : te σ H fun _ H1 => nx σ H1) : tDrop te ⟨nx, rt, bk, ct⟩ σ H := q
theorem w_ret {nx bk ct : L2.St → Hp → Prop} {rt : VK} (q : te σ H rt) : tRet te ⟨nx, rt, bk, ct⟩ σ H := q
theorem w_if {c : TT} (q : c σ H fun b H1 => if b = true then ts D σ H1 else us D σ H1) : tIfS c ts us D σ H := q
theorem w_name {N : St → Hp → Prop} (h : σ.set n (some v) = σ') (q : N σ' H) : gName n v σ H N := by rw [← h] at q; exact q
theorem w_nil (q : QL [] H) : tNil σ H QL := q
theorem w_cons (q : te σ H fun x H1 => tl σ H1 fun xs H2 => QL (x :: xs) H2) : tCons te tl σ H QL := q
theorem w_T {A B : Prop} {c : Bool} (h : c = true) (q : A) : if c = true then A else B := by rw [h]; exact iteT q
theorem w_F {A B : Prop} {c : Bool} (h : c = false) (q : B) : if c = true then A else B := by rw [h]; exact iteF q
theorem w_ite {c A B : Prop} [Decidable c] (h1 : c → A) (h2 : ¬ c → B) : if decide c = true then A else B := by
  by_cases h : c
  · rw [decide_eq_true h]; exact iteT (h1 h)
  · rw [decide_eq_false h]; exact iteF (h2 h)
theorem w_call {sp : Sp} {E : St → XK} (q : tl σ H fun vs H1 => sp vs H1 Q (E σ)) : tCallS sp E tl σ H Q := q
theorem w_cb {r : List V → Hp → VK → Prop} (q : tl σ H fun vs H1 => r vs H1 Q) : tCB r tl σ H Q := q
theorem set0 {a0 : Option V} {l : St} : (a0 :: l).set 0 (some v) = some v :: l := rfl
theorem set1 {a0 a1 : Option V} {l : St} : (a0 :: a1 :: l).set 1 (some v) = a0 :: some v :: l := rfl
theorem set2 {a0 a1 a2 : Option V} {l : St} : (a0 :: a1 :: a2 :: l).set 2 (some v) = a0 :: a1 :: some v :: l := rfl
theorem set3 {a0 a1 a2 a3 : Option V} {l : St} : (a0 :: a1 :: a2 :: a3 :: l).set 3 (some v) = a0 :: a1 :: a2 :: some v :: l := rfl
theorem set4 {a0 a1 a2 a3 a4 : Option V} {l : St} : (a0 :: a1 :: a2 :: a3 :: a4 :: l).set 4 (some v) = a0 :: a1 :: a2 :: a3 :: some v :: l := rfl
theorem set5 {a0 a1 a2 a3 a4 a5 : Option V} {l : St} : (a0 :: a1 :: a2 :: a3 :: a4 :: a5 :: l).set 5 (some v) = a0 :: a1 :: a2 :: a3 :: a4 :: some v :: l := rfl
theorem set6 {a0 a1 a2 a3 a4 a5 a6 : Option V} {l : St} : (a0 :: a1 :: a2 :: a3 :: a4 :: a5 :: a6 :: l).set 6 (some v) = a0 :: a1 :: a2 :: a3 :: a4 :: a5 :: some v :: l := rfl
theorem set7 {a0 a1 a2 a3 a4 a5 a6 a7 : Option V} {l : St} : (a0 :: a1 :: a2 :: a3 :: a4 :: a5 :: a6 :: a7 :: l).set 7 (some v) = a0 :: a1 :: a2 :: a3 :: a4 :: a5 :: a6 :: some v :: l := rfl
theorem set8 {a0 a1 a2 a3 a4 a5 a6 a7 a8 : Option V} {l : St} : (a0 :: a1 :: a2 :: a3 :: a4 :: a5 :: a6 :: a7 :: a8 :: l).set 8 (some v) = a0 :: a1 :: a2 :: a3 :: a4 :: a5 :: a6 :: a7 :: some v :: l := rfl
theorem set9 {a0 a1 a2 a3 a4 a5 a6 a7 a8 a9 : Option V} {l : St} : (a0 :: a1 :: a2 :: a3 :: a4 :: a5 :: a6 :: a7 :: a8 :: a9 :: l).set 9 (some v) = a0 :: a1 :: a2 :: a3 :: a4 :: a5 :: a6 :: a7 :: a8 :: some v :: l := rfl
theorem set10 {a0 a1 a2 a3 a4 a5 a6 a7 a8 a9 a10 : Option V} {l : St} : (a0 :: a1 :: a2 :: a3 :: a4 :: a5 :: a6 :: a7 :: a8 :: a9 :: a10 :: l).set 10 (some v) = a0 :: a1 :: a2 :: a3 :: a4 :: a5 :: a6 :: a7 :: a8 :: a9 :: some v :: l := rfl
theorem set11 {a0 a1 a2 a3 a4 a5 a6 a7 a8 a9 a10 a11 : Option V} {l : St} : (a0 :: a1 :: a2 :: a3 :: a4 :: a5 :: a6 :: a7 :: a8 :: a9 :: a10 :: a11 :: l).set 11 (some v) = a0 :: a1 :: a2 :: a3 :: a4 :: a5 :: a6 :: a7 :: a8 :: a9 :: a10 :: some v :: l := rfl
theorem set12 {a0 a1 a2 a3 a4 a5 a6 a7 a8 a9 a10 a11 a12 : Option V} {l : St} : (a0 :: a1 :: a2 :: a3 :: a4 :: a5 :: a6 :: a7 :: a8 :: a9 :: a10 :: a11 :: a12 :: l).set 12 (some v) = a0 :: a1 :: a2 :: a3 :: a4 :: a5 :: a6 :: a7 :: a8 :: a9 :: a10 :: a11 :: some v :: l := rfl
theorem set13 {a0 a1 a2 a3 a4 a5 a6 a7 a8 a9 a10 a11 a12 a13 : Option V} {l : St} : (a0 :: a1 :: a2 :: a3 :: a4 :: a5 :: a6 :: a7 :: a8 :: a9 :: a10 :: a11 :: a12 :: a13 :: l).set 13 (some v) = a0 :: a1 :: a2 :: a3 :: a4 :: a5 :: a6 :: a7 :: a8 :: a9 :: a10 :: a11 :: a12 :: some v :: l := rfl
theorem set14 {a0 a1 a2 a3 a4 a5 a6 a7 a8 a9 a10 a11 a12 a13 a14 : Option V} {l : St} : (a0 :: a1 :: a2 :: a3 :: a4 :: a5 :: a6 :: a7 :: a8 :: a9 :: a10 :: a11 :: a12 :: a13 :: a14 :: l).set 14 (some v) = a0 :: a1 :: a2 :: a3 :: a4 :: a5 :: a6 :: a7 :: a8 :: a9 :: a10 :: a11 :: a12 :: a13 :: some v :: l := rfl
theorem set15 {a0 a1 a2 a3 a4 a5 a6 a7 a8 a9 a10 a11 a12 a13 a14 a15 : Option V} {l : St} : (a0 :: a1 :: a2 :: a3 :: a4 :: a5 :: a6 :: a7 :: a8 :: a9 :: a10 :: a11 :: a12 :: a13 :: a14 :: a15 :: l).set 15 (some v) = a0 :: a1 :: a2 :: a3 :: a4 :: a5 :: a6 :: a7 :: a8 :: a9 :: a10 :: a11 :: a12 :: a13 :: a14 :: some v :: l := rfl
theorem set16 {a0 a1 a2 a3 a4 a5 a6 a7 a8 a9 a10 a11 a12 a13 a14 a15 a16 : Option V} {l : St} : (a0 :: a1 :: a2 :: a3 :: a4 :: a5 :: a6 :: a7 :: a8 :: a9 :: a10 :: a11 :: a12 :: a13 :: a14 :: a15 :: a16 :: l).set 16 (some v) = a0 :: a1 :: a2 :: a3 :: a4 :: a5 :: a6 :: a7 :: a8 :: a9 :: a10 :: a11 :: a12 :: a13 :: a14 :: a15 :: some v :: l := rfl
theorem set17 {a0 a1 a2 a3 a4 a5 a6 a7 a8 a9 a10 a11 a12 a13 a14 a15 a16 a17 : Option V} {l : St} : (a0 :: a1 :: a2 :: a3 :: a4 :: a5 :: a6 :: a7 :: a8 :: a9 :: a10 :: a11 :: a12 :: a13 :: a14 :: a15 :: a16 :: a17 :: l).set 17 (some v) = a0 :: a1 :: a2 :: a3 :: a4 :: a5 :: a6 :: a7 :: a8 :: a9 :: a10 :: a11 :: a12 :: a13 :: a14 :: a15 :: a16 :: some v :: l := rfl
theorem set18 {a0 a1 a2 a3 a4 a5 a6 a7 a8 a9 a10 a11 a12 a13 a14 a15 a16 a17 a18 : Option V} {l : St} : (a0 :: a1 :: a2 :: a3 :: a4 :: a5 :: a6 :: a7 :: a8 :: a9 :: a10 :: a11 :: a12 :: a13 :: a14 :: a15 :: a16 :: a17 :: a18 :: l).set 18 (some v) = a0 :: a1 :: a2 :: a3 :: a4 :: a5 :: a6 :: a7 :: a8 :: a9 :: a10 :: a11 :: a12 :: a13 :: a14 :: a15 :: a16 :: a17 :: some v :: l := rfl
theorem set19 {a0 a1 a2 a3 a4 a5 a6 a7 a8 a9 a10 a11 a12 a13 a14 a15 a16 a17 a18 a19 : Option V} {l : St} : (a0 :: a1 :: a2 :: a3 :: a4 :: a5 :: a6 :: a7 :: a8 :: a9 :: a10 :: a11 :: a12 :: a13 :: a14 :: a15 :: a16 :: a17 :: a18 :: a19 :: l).set 19 (some v) = a0 :: a1 :: a2 :: a3 :: a4 :: a5 :: a6 :: a7 :: a8 :: a9 :: a10 :: a11 :: a12 :: a13 :: a14 :: a15 :: a16 :: a17 :: a18 :: some v :: l := rfl
theorem set20 {a0 a1 a2 a3 a4 a5 a6 a7 a8 a9 a10 a11 a12 a13 a14 a15 a16 a17 a18 a19 a20 : Option V} {l : St} : (a0 :: a1 :: a2 :: a3 :: a4 :: a5 :: a6 :: a7 :: a8 :: a9 :: a10 :: a11 :: a12 :: a13 :: a14 :: a15 :: a16 :: a17 :: a18 :: a19 :: a20 :: l).set 20 (some v) = a0 :: a1 :: a2 :: a3 :: a4 :: a5 :: a6 :: a7 :: a8 :: a9 :: a10 :: a11 :: a12 :: a13 :: a14 :: a15 :: a16 :: a17 :: a18 :: a19 :: some v :: l := rfl
theorem set21 {a0 a1 a2 a3 a4 a5 a6 a7 a8 a9 a10 a11 a12 a13 a14 a15 a16 a17 a18 a19 a20 a21 : Option V} {l : St} : (a0 :: a1 :: a2 :: a3 :: a4 :: a5 :: a6 :: a7 :: a8 :: a9 :: a10 :: a11 :: a12 :: a13 :: a14 :: a15 :: a16 :: a17 :: a18 :: a19 :: a20 :: a21 :: l).set 21 (some v) = a0 :: a1 :: a2 :: a3 :: a4 :: a5 :: a6 :: a7 :: a8 :: a9 :: a10 :: a11 :: a12 :: a13 :: a14 :: a15 :: a16 :: a17 :: a18 :: a19 :: a20 :: some v :: l := rfl
theorem set22 {a0 a1 a2 a3 a4 a5 a6 a7 a8 a9 a10 a11 a12 a13 a14 a15 a16 a17 a18 a19 a20 a21 a22 : Option V} {l : St} : (a0 :: a1 :: a2 :: a3 :: a4 :: a5 :: a6 :: a7 :: a8 :: a9 :: a10 :: a11 :: a12 :: a13 :: a14 :: a15 :: a16 :: a17 :: a18 :: a19 :: a20 :: a21 :: a22 :: l).set 22 (some v) = a0 :: a1 :: a2 :: a3 :: a4 :: a5 :: a6 :: a7 :: a8 :: a9 :: a10 :: a11 :: a12 :: a13 :: a14 :: a15 :: a16 :: a17 :: a18 :: a19 :: a20 :: a21 :: some v :: l := rfl
theorem set23 {a0 a1 a2 a3 a4 a5 a6 a7 a8 a9 a10 a11 a12 a13 a14 a15 a16 a17 a18 a19 a20 a21 a22 a23 : Option V} {l : St} : (a0 :: a1 :: a2 :: a3 :: a4 :: a5 :: a6 :: a7 :: a8 :: a9 :: a10 :: a11 :: a12 :: a13 :: a14 :: a15 :: a16 :: a17 :: a18 :: a19 :: a20 :: a21 :: a22 :: a23 :: l).set 23 (some v) = a0 :: a1 :: a2 :: a3 :: a4 :: a5 :: a6 :: a7 :: a8 :: a9 :: a10 :: a11 :: a12 :: a13 :: a14 :: a15 :: a16 :: a17 :: a18 :: a19 :: a20 :: a21 :: a22 :: some v :: l := rfl
end
end L2.My

/-! W1: own ==, reflected ==, own minus in front; gcd of three; raising an own error; is of bools. -/
namespace L2.My
open PySem PySem.Spec PyProof.Rows PySem.SeqAt
open AutoSeq1 (wpAny_loadPart')

/-! ### the type of a value that is known -/
section
variable {X : Cx} {pins : List (Addr × Obj)} {σ : St} {H : Hp} {s : Shared} {y : V} {u t : Value}
theorem looks_ty (I : Inv X pins σ H s) (ru : RelV y u) (ty : TyX X.K H y t) : PySem.W.Looks (model X.prog X.w) s.heap (typeOf u) t := by
  obtain ⟨P, Z, p, _⟩ := kit_of I ru ty
  exact Z.ty _ _ I.kIn p
end

/-! ### x op y by x's own def -/
section
variable {X : Cx} {C : Addr} {k j : Nat} {ps : List Str} {sp : Sp} {E : XK} {m : Str}
def rOwnC (K : PySem.W.Frag) (C : Addr) (sp : Sp) (E : XK) : R2 := fun x y H Q => ∃ a dx fs t, x = .ref a ∧ H a = some (.ins C dx fs) ∧ TyX K H y t ∧ PySem.W.notFirst K C t = true ∧ sp [x, y] H Q E
theorem op_ownC {op : CmpOp} (hop : ∀ a b, compareOp op a b = richCompare op a b) (h : HasM X.prog X.w X.K X.mg X.base C (cmpInfo op).2.1 k ps sp) (hr : Room j X.A) (hx : Passes (L2.CX X.prog X.w) X E) (hj : k ≤ j := by decide) :
    OpR X (compareOp op) (rOwnC X.K C sp E) := by
  obtain ⟨f, fd, Fo, hm, hb⟩ := h
  intro pins s σ H x y v u Q I rx ry hh
  obtain ⟨a, dx, fs, t, rfl, ha, ty, hn, q⟩ := hh
  cases (show v = Value.ref a from rx)
  obtain ⟨mA, O, _⟩ := ins_get I.hok ha
  obtain ⟨od, J, _⟩ := O.look
  have hb' := looks_ty I ry ty
  obtain ⟨m, hF⟩ := I.fr
  rw [hop]
  refine PySem.W.cmp_K (op := op) (tb := t) hr.units0 hF I.ok.mod.kin J hb' hn hm.at_ hm.fn ?_
  refine wpAny_mono (run_fn Fo (hr.mono hj) hb .nil hx I (.cons rx (.cons ry .nil)) q) (fun w s' z => ?_) fun _ _ x => x
  obtain ⟨z', H', I', rz, qz⟩ := z
  exact SlX.cmpback rz ⟨z', H', I', rz, qz⟩
theorem op_eqC (h : HasM X.prog X.w X.K X.mg X.base C "__eq__" k ps sp) (hr : Room j X.A) (hx : Passes (L2.CX X.prog X.w) X E) (hj : k ≤ j := by decide) :
    OpR X (compareOp .Eq) (rOwnC X.K C sp E) := op_ownC (fun _ _ => rfl) h hr hx hj

/-! ### an int or a bool == an instance: the instance's own def, turned about -/
theorem int_eq_declines_ins_int (b : Int) (u : Tok) (l C dx : Addr) :
    Meets (Builtin.«int.__eq__» ⟨[.int b u, .ref l], []⟩) (fun _ R s => s.heap.get? l = some (PySem.W.instObj C dx) ∧ R (.ok (.ret .notImplemented)) s) :=
  .of_wp fun prog w A R s h => by obtain ⟨hp, g, d, tk, os⟩ := s; obtain ⟨hl, h⟩ := h; wp_walk using wpAny_loadPart' hl, wpAny_load hl; exact ⟨_, rfl, h⟩
theorem int_eq_declines_ins_bool (b : Bool) (l C dx : Addr) :
    Meets (Builtin.«int.__eq__» ⟨[.bool b, .ref l], []⟩) (fun _ R s => s.heap.get? l = some (PySem.W.instObj C dx) ∧ R (.ok (.ret .notImplemented)) s) :=
  .of_wp fun prog w A R s h => by obtain ⟨hp, g, d, tk, os⟩ := s; obtain ⟨hl, h⟩ := h; wp_walk using wpAny_loadPart' hl, wpAny_load hl; exact ⟨_, rfl, h⟩

theorem rc_refl {prog : Program} {w : World} {A : Around} {E : Value → Shared → Prop} {s : Shared} {K : PySem.W.Frag} {x C f : Addr} {ox : Obj} {od : Option Obj} {b : Value} {T : String} {Q : Value → Shared → Prop} (hu : A.units < cLine) (X : K.In s.heap) (I : PySem.W.InstAt s.heap x ox C od)
    (hb : s.TypeIs b T) (hsub : PySem.W.subIn K (.ref C) (.type T) = some false) (hs : PySem.W.findIn K (.ref C) "__eq__" = some (some (.ref f))) (hf : PySem.W.isFn K (.ref f) = true)
    (hd : ∀ Q' : Option Value → Shared → Prop, Q' none s → wpAny (model prog w) A (tryCompare b "__eq__" (.ref x)) Q' E s)
    (h : wpAny (model prog w) A (call (.ref f) [.ref x, b]) (PySem.W.CmpBack Q) E s) : wpAny (model prog w) A (richCompare .Eq b (.ref x)) Q E s := by
  have one : wpAny (model prog w) A (tryCompare (.ref x) "__eq__" b) (fun r s' => ∃ v, r = some v ∧ Q v s') E s := by
    unfold tryCompare
    refine wpAny_bind (PySem.W.ifBound_K X I hs hf (wpAny_mono h (fun v s' hv => ?_) fun _ _ e => e))
    cases v <;> first | exact hv.elim | exact wpAny_pure ⟨_, rfl, hv⟩
  have ot : oneThing? .Eq b (.ref x) = none := hb.oneThing_none _ _
  have hne : (Value.type T != Value.ref C) = true := rfl
  unfold richCompare
  rw [ot]
  refine wpAny_holding (wpAny_bind (wpAny_cRoomFor hu ?_))
  refine wpAny_bind (wpAny_typeOf hb (wpAny_bind (I.type.here ?_)))
  simp only [hne, if_true]
  refine wpAny_bind ((PySem.W.looks_subIn X hsub).here ?_)
  simp only [cmpInfo, Bool.false_eq_true, if_false, Bool.not_false, if_true]
  refine wpAny_bind (hd _ ?_)
  refine wpAny_bind (wpAny_mono one (fun r s' z => ?_) fun _ _ e => e)
  obtain ⟨v, rfl, hq⟩ := z
  exact wpAny_pure hq

def rOwnR (K : PySem.W.Frag) (C : Addr) (sp : Sp) (E : XK) : R2 := fun x y H Q => ∃ a dx fs, y = .ref a ∧ H a = some (.ins C dx fs) ∧
  ((∃ i, x = .int i) ∧ PySem.W.subIn K (.ref C) (.type "int") = some false ∨ (∃ b, x = .bl b) ∧ PySem.W.subIn K (.ref C) (.type "bool") = some false) ∧ sp [y, x] H Q E
theorem op_eqR (h : HasM X.prog X.w X.K X.mg X.base C "__eq__" k ps sp) (hr : Room j X.A) (hx : Passes (L2.CX X.prog X.w) X E) (hj : k ≤ j := by decide) :
    OpR X (compareOp .Eq) (rOwnR X.K C sp E) := by
  obtain ⟨f, fd, Fo, hm, hb⟩ := h
  intro pins s σ H x y v u Q I rx ry hh
  obtain ⟨a, dx, fs, rfl, ha, hxx, q⟩ := hh
  cases (show u = Value.ref a from ry)
  obtain ⟨mA, O, _⟩ := ins_get I.hok ha
  obtain ⟨od, J, _⟩ := O.look
  have call_ : wpAny (model X.prog X.w) X.A (call (.ref f) [.ref a, v]) (PySem.W.CmpBack (EP X pins σ Q)) X.xe s := by
    refine wpAny_mono (run_fn Fo (hr.mono hj) hb .nil hx I (.cons ry (.cons rx .nil)) q) (fun w s' z => ?_) fun _ _ x => x
    obtain ⟨z', H', I', rz, qz⟩ := z
    exact SlX.cmpback rz ⟨z', H', I', rz, qz⟩
  rcases hxx with ⟨⟨i, rfl⟩, hsub⟩ | ⟨⟨b, rfl⟩, hsub⟩
  · obtain ⟨t, rfl⟩ := (show ∃ t, v = Value.int i t from rx)
    exact rc_refl hr.units0 I.kIn J (typeIs_int s i t) hsub hm.at_ hm.fn (fun Q' hq => wpAny_tryCompare_declines (typeIs_int s i t) F.slot_int_eq
      (call_meets F.slot_int_eq (typeIs_int s i t) F.entry_int_eq (F.args_int_eq_2 _ _) (int_eq_declines_ins_int i t a C dx) ⟨O.obj, rfl, hq⟩)) call_
  · cases (show v = Value.bool b from rx)
    exact rc_refl hr.units0 I.kIn J (show s.TypeIs (.bool b) "bool" from rfl) hsub hm.at_ hm.fn (fun Q' hq => wpAny_tryCompare_declines (show s.TypeIs (.bool b) "bool" from rfl) F.slot_bool_eq
      (call_meets F.slot_bool_eq rfl F.entry_int_eq (F.args_int_eq_2 _ _) (int_eq_declines_ins_bool b a C dx) ⟨O.obj, rfl, hq⟩)) call_

/-! ### -x by x's own def -/
def rOwnU (C : Addr) (sp : Sp) (E : XK) : V → Hp → VK → Prop := fun x H Q => ∃ a dx fs, x = .ref a ∧ H a = some (.ins C dx fs) ∧ sp [x] H Q E
theorem un_own (h : HasM X.prog X.w X.K X.mg X.base C "__neg__" k ps sp) (hr : Room j X.A) (hx : Passes (L2.CX X.prog X.w) X E) (hj : k ≤ j := by decide) :
    UnR X (unaryOp .USub) (rOwnU C sp E) := by
  obtain ⟨f, fd, Fo, hm, hb⟩ := h
  intro pins s σ H x v Q I rx hh
  obtain ⟨a, dx, fs, rfl, ha, q⟩ := hh
  cases (show v = Value.ref a from rx)
  obtain ⟨mA, O, _⟩ := ins_get I.hok ha
  obtain ⟨od, J, _⟩ := O.look
  obtain ⟨m, hF⟩ := I.fr
  exact PySem.W.ksp_neg hF I.ok.mod.kin J hm.at_ hm.fn (run_fn Fo (hr.mono hj) hb .nil hx I (.cons rx .nil) q)

/-! ### math.gcd of three -/
theorem args_gcd3 (a b c : Value) : argsOk "math.gcd" ⟨[a, b, c], []⟩ := by unfold argsOk; kernel_rfl
theorem mg_run_gcd3 (a : Int) (t : Tok) (b : Int) (u : Tok) (c : Int) (w : Tok) :
    Gives (Builtin.«math.gcd» ⟨[.int a t, .int b u, .int c w], []⟩) (.int ((((Nat.gcd 0 a.natAbs).gcd b.natAbs).gcd c.natAbs : Nat) : Int)) :=
  .of_wp fun M A E s Q h => by obtain ⟨hp, g, d, tk, os⟩ := s; wp_walk; exact ⟨_, rfl, h⟩
def rGcd3 : List V → Hp → VK → Prop := fun vs H Q => ∃ a b c : Int, vs = [.int a, .int b, .int c] ∧ Q (.int (((a.natAbs.gcd b.natAbs).gcd c.natAbs : Nat) : Int)) H
theorem cr_gcd3 : CallR X (.builtin "math.gcd") rGcd3 := by
  intro pins s σ H vs us Q I r h
  obtain ⟨a, b, c, rfl, q⟩ := h
  cases r with
  | cons ra r =>
    cases r with
    | cons rb r =>
      cases r with
      | cons rc r =>
        cases r
        obtain ⟨t, rfl⟩ := ra
        obtain ⟨u, rfl⟩ := rb
        obtain ⟨w, rfl⟩ := rc
        have g := mg_run_gcd3 a t b u c w
        rw [Nat.gcd_zero_left] at g
        exact call_function_meets PySem.W.MGF.kind_gcd PySem.W.MGF.plain_gcd PySem.W.MGF.entry_gcd (args_gcd3 _ _ _) g.meets ⟨.int _, H, I.tok _, ⟨_, rfl⟩, q⟩
end
end L2.My

/-! W2: where defs stand, what is known of things, Roots. -/
namespace L2.My
open PySem PySem.Spec PyProof.Rows
/-! ### where a def of the text stands behind the top -/
def AtF (K : PySem.W.Frag) (mg : Str → Option Value) (x qual : Str) (st : Stmt) (ps : List Str) : Prop := ∃ f fd, Fun K x qual st f fd ∧ Binds K fd ps [] ∧ mg x = some (.ref f)
def AtM (K : PySem.W.Frag) (C : Addr) (m qual : Str) (st : Stmt) (ps : List Str) : Prop := ∃ f fd, Fun K m qual st f fd ∧ Binds K fd ps [] ∧ Meth K C m f
def AtC (K : PySem.W.Frag) (mg : Str → Option Value) (x : Str) (C : Addr) (qual : Str) (st : Stmt) (ps : List Str) : Prop := ∃ f fd, Fun K "__init__" qual st f fd ∧ Binds K fd ps [] ∧ Mk K C f ∧ mg x = some (.ref C)
def AtX (K : PySem.W.Frag) (mg : Str → Option Value) (x : Str) (C : Addr) (qual : Str) (st : Stmt) (ps : List Str) : Prop := ∃ f fd, Fun K "__init__" qual st f fd ∧ Binds K fd ps [] ∧ mg x = some (.ref C) ∧
  PySem.W.findIn K (.ref C) "__init__" = some (some (.ref f)) ∧ PySem.W.typeIn K (.ref f) = some (.type "function")
section
variable {P : Program} {w : World} {K : PySem.W.Frag} {mg : Str → Option Value} {base : Heap} {x m qual : Str} {st : Stmt} {N ps : List Str} {k : Nat} {sp : Sp} {C : Addr}
abbrev BodyOk (P : Program) (w : World) (K : PySem.W.Frag) (mg : Str → Option Value) (base : Heap) (N : List Str) (qual : Str) (st : Stmt) (k : Nat) (sp : Sp) (f : Addr) : Prop :=
  ∀ (cdv : Value) (A : Around) (outer : List Env) (s : Shared) (H : Hp) (vs : List V) (Q : VK) (E : XK), Room k (A.deeper (envOfC qual (defScope st) s.heap.objs.size f cdv)) → sp vs H Q E →
    ∃ t, PSs (cxOf (L2.CX P w) P w K mg base N qual (defScope st) f cdv A outer s H E) (defBody st) t ∧ t { nx := fun _ H' => Q .non H', rt := Q } (start N vs) H
theorem AtF.ok (D : AtF K mg x qual st ps) (S : FnScope N ps (defScope st)) (len : ∀ vs H Q E, sp vs H Q E → vs.length = ps.length) (h : ∀ {f : Addr}, BodyOk P w K mg base N qual st k sp f) : Has P w K mg base x (k + 1) ps sp := by
  obtain ⟨f, fd, Fo, b, g⟩ := D
  exact ⟨f, fd, Fo.okX S len h, g, Fo.kp, b⟩
theorem AtM.ok (D : AtM K C m qual st ps) (S : FnScope N ps (defScope st)) (len : ∀ vs H Q E, sp vs H Q E → vs.length = ps.length) (h : ∀ {f : Addr}, BodyOk P w K mg base N qual st k sp f) : HasM P w K mg base C m (k + 1) ps sp := by
  obtain ⟨f, fd, Fo, b, g⟩ := D
  exact ⟨f, fd, Fo.okX S len h, g, b⟩
theorem AtC.ok (D : AtC K mg x C qual st ps) (S : FnScope N ps (defScope st)) (len : ∀ vs H Q E, sp vs H Q E → vs.length = ps.length) (h : ∀ {f : Addr}, BodyOk P w K mg base N qual st k sp f) : HasC P w K mg base x C (k + 1) ps sp := by
  obtain ⟨f, fd, Fo, b, g, h2⟩ := D
  exact ⟨f, fd, Fo.okX S len h, g, h2, b⟩
/-- an own error class that is made -/
def HasX (P : Program) (w : World) (K : PySem.W.Frag) (mg : Str → Option Value) (base : Heap) (x : Str) (C : Addr) (k : Nat) (ps : List Str) (sp : Sp) : Prop :=
  ∃ f fd, FnOk P w K mg base (L2.CX P w) k f fd ps sp ∧ mg x = some (.ref C) ∧ PySem.W.findIn K (.ref C) "__init__" = some (some (.ref f)) ∧ PySem.W.typeIn K (.ref f) = some (.type "function") ∧ Binds K fd ps []
theorem AtX.ok (D : AtX K mg x C qual st ps) (S : FnScope N ps (defScope st)) (len : ∀ vs H Q E, sp vs H Q E → vs.length = ps.length) (h : ∀ {f : Addr}, BodyOk P w K mg base N qual st k sp f) : HasX P w K mg base x C (k + 1) ps sp := by
  obtain ⟨f, fd, Fo, b, g, h2, h3⟩ := D
  exact ⟨f, fd, Fo.okX S len h, g, h2, h3, b⟩
end
/-- making an own error, to be raised -/
theorem pm_h {X : Cx} {x : Str} {C : Addr} {k j : Nat} {ps : List Str} {sp : Sp} {e : Expr} {es : List Expr} {ta : TA} {p pos : Pos} (T : OexC X.K C) (h : HasX X.prog X.w X.K X.mg X.base x C k ps sp) (hr : Room j X.A) (ha : PA X (e :: es) ta) (hj : k + 1 ≤ j := by decide) (hg : Gl X x := by rfl)
    (hdb : (x == ("__debug__" : Str)) = false := by decide) (he : starEach (e :: es) X.env = (false, eval e X.env) :: starEach es X.env := by rfl) (hpl : (backTo pos (starEach es X.env)).any (·.1) = false := by rfl) :
    PMk X (.Call (.Name x p) (e :: es) [] pos) (tMkO C sp [] ta) := by
  obtain ⟨f, fd, Fo, hm, iC, tI, hb⟩ := h
  exact pmk_oex T iC tI Fo (hr.mono hj) hb .nil passL hg hm ha hdb he hpl
/-! ### what is known of things -/
/-- what stands is as it was, but for the object at p -/
def SameX (p : Addr) (H H' : Hp) : Prop := ∀ b o, b ≠ p → H b = some o → H' b = some o
theorem Same.x {p : Addr} {H H' : Hp} (h : Same H H') : SameX p H H' := fun b o _ e => h b o e
theorem SameX.trans {p : Addr} {H H1 H2 : Hp} (a : SameX p H H1) (b : SameX p H1 H2) : SameX p H H2 := fun c o n e => b c o n (a c o n e)
theorem SameX.upd {p : Addr} {H H1 : Hp} {o : HO} (a : SameX p H H1) : SameX p H (upd H1 p o) := fun c u n e => by rw [upd_ne n]; exact a c u n e
theorem Same.new {H : Hp} {p : Addr} {o : HO} (h : H p = none) : Same H (upd H p o) := fun a u e => by rw [upd_ne (ne_of_none e h)]; exact e
def rootF (t r b : Int) : List (Str × V) := [("top", .int t), ("root", .int r), ("bottom", .int b)]
/-- a number as the package keeps it -/
def RootAt (c : Addr) (H : Hp) (v : V) (t r b : Int) : Prop := ∃ a dx, v = .ref a ∧ H a = some (.ins c dx (rootF t r b))
theorem RootAt.same {c : Addr} {H H' : Hp} {v : V} {t r b : Int} (h : RootAt c H v t r b) (s : Same H H') : RootAt c H' v t r b := by
  obtain ⟨a, dx, rfl, e⟩ := h
  exact ⟨a, dx, rfl, s _ _ e⟩
/-- a thing of a kind that is known -/
inductive Th (c : Addr) (H : Hp) : V → Prop
  | non : Th c H .non
  | bl (b : Bool) : Th c H (.bl b)
  | int (i : Int) : Th c H (.int i)
  | str (s : Str) : Th c H (.str s)
  | lst (a : Addr) (xs : List V) (e : H a = some (.lst xs)) : Th c H (.ref a)
  | tup (a : Addr) (xs : List V) (e : H a = some (.tup xs)) : Th c H (.ref a)
  | dK (a : Addr) (kvs : List (Key × V)) (e : H a = some (.dK kvs)) : Th c H (.ref a)
  | root (a dx : Addr) (t r b : Int) (e : H a = some (.ins c dx (rootF t r b))) : Th c H (.ref a)
theorem Th.same {c : Addr} {H H' : Hp} {v : V} (h : Th c H v) (s : Same H H') : Th c H' v := by
  cases h with
  | non => exact .non
  | bl b => exact .bl b
  | int i => exact .int i
  | str s => exact .str s
  | lst a xs e => exact .lst a xs (s _ _ e)
  | tup a xs e => exact .tup a xs (s _ _ e)
  | dK a xs e => exact .dK a xs (s _ _ e)
  | root a dx t r b e => exact .root a dx t r b (s _ _ e)
def isI : V → Bool
  | .int _ => true
  | _ => false
def isB : V → Bool
  | .bl _ => true
  | _ => false
def isC (c : Addr) (H : Hp) : V → Bool
  | .ref a => match H a with
    | some (.ins C _ _) => decide (C = c)
    | _ => false
  | _ => false
/-- what isinstance says of the kinds, for the class at C -/
structure KiT (K : PySem.W.Frag) (c : Addr) : Prop where
  ty : Cls K c
  ha : PySem.W.findIn K (.ref c) "__class__" = some (some (.builtin "object.__class__"))
  hn : PySem.W.specialIn K (.builtin "object.__class__") "__get__" = some (some (.builtin "getset_descriptor.__get__"))
  htk : PySem.W.takesIn K (.builtin "object.__class__") = some true
  hm : PySem.W.mroIn K c (.type "object") = some true
  i : PySem.W.kitOne K (.ref c) (.type "int") = some false
  b : PySem.W.kitOne K (.ref c) (.type "bool") = some false
  cc : PySem.W.kitOne K (.ref c) (.ref c) = some true
  k1 : PySem.W.kitOne K (.type "NoneType") (.ref c) = some false
  k2 : PySem.W.kitOne K (.type "bool") (.ref c) = some false
  k3 : PySem.W.kitOne K (.type "int") (.ref c) = some false
  k4 : PySem.W.kitOne K (.type "str") (.ref c) = some false
  k5 : PySem.W.kitOne K (.type "list") (.ref c) = some false
  k6 : PySem.W.kitOne K (.type "tuple") (.ref c) = some false
  k7 : PySem.W.kitOne K (.type "dict") (.ref c) = some false
  n1 : PySem.W.subIn K (.type "NoneType") (.ref c) = some false
  n2 : PySem.W.subIn K (.type "bool") (.ref c) = some false
  n3 : PySem.W.subIn K (.type "int") (.ref c) = some false
  n4 : PySem.W.subIn K (.type "str") (.ref c) = some false
  n5 : PySem.W.subIn K (.type "list") (.ref c) = some false
  n6 : PySem.W.subIn K (.type "tuple") (.ref c) = some false
  n7 : PySem.W.subIn K (.type "dict") (.ref c) = some false
  s1 : PySem.W.subIn K (.ref c) (.type "int") = some false
  s2 : PySem.W.subIn K (.ref c) (.type "bool") = some false
theorem Th.ty {K : PySem.W.Frag} {c : Addr} {H : Hp} {v : V} (h : Th c H v) (T : KiT K c) : ∃ t, TyX K H v t ∧ PySem.W.kitOne K t (.type "int") = some (isI v || isB v) ∧ PySem.W.kitOne K t (.type "bool") = some (isB v) ∧
    PySem.W.kitOne K t (.ref c) = some (isC c H v) ∧ PySem.W.notFirst K c t = true := by
  have nf : ∀ t, PySem.W.subIn K t (.ref c) = some false → PySem.W.notFirst K c t = true := fun t e => by
    unfold PySem.W.notFirst
    rw [e]
    simp
  have kb : ∀ (a b : String) (r : Bool), kitB a b = some r → PySem.W.kitOne K (.type a) (.type b) = some r := fun _ _ _ h => kit_ty h
  have ib : ∀ {a : Addr} {o : HO} (_ : H a = some o) (_ : ∀ C dx fs, o ≠ .ins C dx fs), isC c H (.ref a) = false := fun {a o} e n => by
    show (match H a with | some (.ins C _ _) => decide (C = c) | _ => false) = false
    rw [e]
    cases o <;> first | rfl | exact absurd rfl (n _ _ _)
  cases h with
  | non => exact ⟨_, .base .non, kb "NoneType" "int" false (by decide +kernel), kb "NoneType" "bool" false (by decide +kernel), T.k1, nf _ T.n1⟩
  | bl b => exact ⟨_, .base (.bl b), kb "bool" "int" true (by decide +kernel), kb "bool" "bool" true (by decide +kernel), T.k2, nf _ T.n2⟩
  | int i => exact ⟨_, .base (.int i), kb "int" "int" true (by decide +kernel), kb "int" "bool" false (by decide +kernel), T.k3, nf _ T.n3⟩
  | str s => exact ⟨_, .base (.str s), kb "str" "int" false (by decide +kernel), kb "str" "bool" false (by decide +kernel), T.k4, nf _ T.n4⟩
  | lst a xs e => exact ⟨_, .base (.lst e), kb "list" "int" false (by decide +kernel), kb "list" "bool" false (by decide +kernel), (by rw [ib e (by intros; intro q; cases q)]; exact T.k5), nf _ T.n5⟩
  | tup a xs e => exact ⟨_, .base (.tup e), kb "tuple" "int" false (by decide +kernel), kb "tuple" "bool" false (by decide +kernel), (by rw [ib e (by intros; intro q; cases q)]; exact T.k6), nf _ T.n6⟩
  | dK a xs e => exact ⟨_, .base (.dK e), kb "dict" "int" false (by decide +kernel), kb "dict" "bool" false (by decide +kernel), (by rw [ib e (by intros; intro q; cases q)]; exact T.k7), nf _ T.n7⟩
  | root a dx t r b e =>
    have ic : isC c H (.ref a) = true := by
      show (match H a with | some (.ins C _ _) => decide (C = c) | _ => false) = true
      rw [e]
      exact decide_eq_true rfl
    exact ⟨_, .base (.ins e T.ty T.ha T.hn T.htk T.hm), T.i, T.b, (by rw [ic]; exact T.cc), (by unfold PySem.W.notFirst; simp)⟩
theorem w_isi {K : PySem.W.Frag} {H : Hp} {x : V} {n : String} {t : Value} {b : Bool} {Q : VK} (ty : TyX K H x t) (k : PySem.W.kitOne K t (.type n) = some b) (q : Q (.bl b) H) : rIsi K [x, .ty n] H Q := ⟨x, .ty n, t, _, b, rfl, .ty n, ty, k, q⟩
theorem w_isiC {K : PySem.W.Frag} {H : Hp} {x : V} {c : Addr} {t : Value} {b : Bool} {Q : VK} (ty : TyX K H x t) (k : PySem.W.kitOne K t (.ref c) = some b) (q : Q (.bl b) H) : rIsi K [x, .ref c] H Q := ⟨x, .ref c, t, _, b, rfl, .own c, ty, k, q⟩

/-! ### more steps -/
section
variable {K : PySem.W.Frag} {σ : St} {H : Hp} {Q : VK} {te : TE} {tl : TA} {a : Addr} {xs : List V} {i : Int} {v : V}
theorem sz1000 {n : Nat} (h : n ≤ 1000) : n ≤ sizeLine := Nat.le_trans h (by decide)
theorem Same.upd_new {H H1 : Hp} {p : Addr} {o : HO} (s : Same H H1) (h : H1 p = none) : Same H (upd H1 p o) := s.trans (Same.new h)
/-- a new tuple, a new list: what is asked -/
def NewT (xs : List V) (H : Hp) (Q : VK) : Prop := xs.length ≤ sizeLine ∧ ∀ p, H p = none → Q (.ref p) (upd H p (.tup xs))
def NewL (xs : List V) (H : Hp) (Q : VK) : Prop := xs.length ≤ sizeLine ∧ ∀ p, H p = none → Q (.ref p) (upd H p (.lst xs))
theorem k_tup (hl : Nat.ble xs.length 1000 = true) (q : ∀ p H2, H p = none → Same H H2 → H2 p = some (.tup xs) → Q (.ref p) H2) : NewT xs H Q :=
  ⟨sz1000 (Nat.le_of_ble_eq_true hl), fun p hp => q p _ hp (Same.new hp) upd_same⟩
theorem k_lst (hl : Nat.ble xs.length 1000 = true) (q : ∀ p H2, H p = none → Same H H2 → H2 p = some (.lst xs) → Q (.ref p) H2) : NewL xs H Q :=
  ⟨sz1000 (Nat.le_of_ble_eq_true hl), fun p hp => q p _ hp (Same.new hp) upd_same⟩
theorem w_tup (q : tl σ H fun xs H1 => NewT xs H1 Q) : tTup tl σ H Q := q
theorem w_lst (q : tl σ H fun xs H1 => NewL xs H1 Q) : tLst tl σ H Q := q
theorem w_ixL (h : H a = some (.lst xs)) (e : atI xs i = some v) (q : Q v H) : rIx K (.ref a) (.int i) H Q := .inl ⟨a, xs, i, v, rfl, rfl, SqL.of h, e, q⟩
theorem w_ixT (h : H a = some (.tup xs)) (e : atI xs i = some v) (q : Q v H) : rIx K (.ref a) (.int i) H Q := .inr (.inl ⟨a, xs, i, v, rfl, rfl, SqT.of h, e, q⟩)
/-- a field of an instance: what is asked -/
def FldP (K : PySem.W.Frag) (f : Str) (x : V) (H : Hp) (Q : VK) : Prop := ∃ a C dx fs v, x = .ref a ∧ H a = some (.ins C dx fs) ∧ Cls K C ∧ NoAttr K C f ∧ fs.lookup f = some v ∧ Q v H
theorem w_fld {C dx : Addr} {fs : List (Str × V)} {f : Str} (h : H a = some (.ins C dx fs)) (hc : Cls K C) (hn : NoAttr K C f) (l : fs.lookup f = some v) (q : Q v H) : FldP K f (.ref a) H Q :=
  ⟨a, C, dx, fs, v, rfl, h, hc, hn, l, q⟩
theorem w_fldE {f : Str} (q : te σ H fun x H1 => FldP K f x H1 Q) : tFld K te f σ H Q := q
/-- a field stored: what is asked -/
def StoP (K : PySem.W.Frag) (f : Str) (y x : V) (H : Hp) (N : Hp → Prop) : Prop := ∃ a C dx fs, x = .ref a ∧ H a = some (.ins C dx fs) ∧ Cls K C ∧ NoAttr K C f ∧ fs.length < 1000 ∧ N (upd H a (.ins C dx (putF f y fs)))
theorem w_sto {C dx : Addr} {fs : List (Str × V)} {f : Str} {N : Hp → Prop} (h : H a = some (.ins C dx fs)) (hc : Cls K C) (hn : NoAttr K C f) (l : Nat.blt fs.length 1000 = true) (q : ∀ H', SameX a H H' → H' a = some (.ins C dx (putF f v fs)) → N H') : StoP K f v (.ref a) H N :=
  ⟨a, C, dx, fs, rfl, h, hc, hn, by simpa using l, q _ (SameX.upd fun _ _ _ e => e) upd_same⟩
theorem w_stoE {f : Str} {tv : TE} {nx bk ct : L2.St → Hp → Prop} {rt : VK} (q : tv σ H fun y H1 => te σ H1 fun x H2 => StoP K f y x H2 fun H3 => nx σ H3) : sFld K te tv f ⟨nx, rt, bk, ct⟩ σ H := q
theorem rf_top (t r b : Int) : (rootF t r b).lookup ("top" : Str) = some (.int t) := by simp [rootF, List.lookup]
theorem rf_root (t r b : Int) : (rootF t r b).lookup ("root" : Str) = some (.int r) := by
  have : (("root" : Str) == "top") = false := by decide +kernel
  simp [rootF, List.lookup, this]
theorem rf_bottom (t r b : Int) : (rootF t r b).lookup ("bottom" : Str) = some (.int b) := by
  have h1 : (("bottom" : Str) == "top") = false := by decide +kernel
  have h2 : (("bottom" : Str) == "root") = false := by decide +kernel
  simp [rootF, List.lookup, h1, h2]
theorem put_root (t r b : Int) : putF "bottom" (.int b) (putF "root" (.int r) (putF "top" (.int t) [])) = rootF t r b := by
  have h1 : ¬ (("top" : Str) = "root") := by decide +kernel
  have h2 : ¬ (("top" : Str) = "bottom") := by decide +kernel
  have h3 : ¬ (("root" : Str) = "bottom") := by decide +kernel
  simp [putF, rootF, h1, h2, h3]
theorem put1 (v : V) : putF "top" v [] = [(("top" : Str), v)] := rfl
theorem put2 (u v : V) : putF "root" v [(("top" : Str), u)] = [(("top" : Str), u), ("root", v)] := by
  have h1 : ¬ (("top" : Str) = "root") := by decide +kernel
  simp [putF, h1]
theorem put3 (t r b : Int) : putF "bottom" (.int b) [(("top" : Str), .int t), ("root", .int r)] = rootF t r b := by
  have h2 : ¬ (("top" : Str) = "bottom") := by decide +kernel
  have h3 : ¬ (("root" : Str) = "bottom") := by decide +kernel
  simp [putF, rootF, h2, h3]
theorem rf_eq {t r b t' r' b' : Int} : rootF t r b = rootF t' r' b' ↔ t = t' ∧ r = r' ∧ b = b' := by simp [rootF]
end
/-! ### loops and comprehensions: the thing that is walked is known -/
section
variable {K : PySem.W.Frag} {σ : St} {H : Hp} {Q : VK} {tl : TE} {ta : TA} {g : TG} {tb : TS} {D : Ends} {p : Addr} {xs : List V} {tt : TT} {te : TE} {ws : List Nat}
def ForT (K : PySem.W.Frag) (g : TG) (tb : TS) (D : Ends) (σ : St) (x : V) (H : Hp) : Prop := tFor (iTup K (tC x)) g tb D σ H
def ForL (K : PySem.W.Frag) (g : TG) (tb : TS) (D : Ends) (σ : St) (x : V) (H : Hp) : Prop := tFor (iList K (tC x)) g tb D σ H
def ForR (g : TG) (tb : TS) (D : Ends) (σ : St) (vs : List V) (H : Hp) : Prop := tFor (iRng1 fun _ H Q => Q vs H) g tb D σ H
def ForR2 (g : TG) (tb : TS) (D : Ends) (σ : St) (vs : List V) (H : Hp) : Prop := tFor (iRng2 fun _ H Q => Q vs H) g tb D σ H
def CompL (K : PySem.W.Frag) (g : TG) (tt : TT) (te : TE) (ws : List Nat) (σ : St) (x : V) (H : Hp) (Q : VK) : Prop := tLc (iList K (tC x)) g tt te ws σ H Q
def CompT (K : PySem.W.Frag) (g : TG) (tt : TT) (te : TE) (ws : List Nat) (σ : St) (x : V) (H : Hp) (Q : VK) : Prop := tLc (iTup K (tC x)) g tt te ws σ H Q
def CompR (g : TG) (tt : TT) (te : TE) (ws : List Nat) (σ : St) (vs : List V) (H : Hp) (Q : VK) : Prop := tLc (iRng1 fun _ H Q => Q vs H) g tt te ws σ H Q
theorem w_forT (q : tl σ H fun x H1 => ForT K g tb D σ x H1) : tFor (iTup K tl) g tb D σ H := q
theorem w_forL (q : tl σ H fun x H1 => ForL K g tb D σ x H1) : tFor (iList K tl) g tb D σ H := q
theorem w_forR (q : ta σ H fun vs H1 => ForR g tb D σ vs H1) : tFor (iRng1 ta) g tb D σ H := q
theorem w_forR2 (q : ta σ H fun vs H1 => ForR2 g tb D σ vs H1) : tFor (iRng2 ta) g tb D σ H := q
theorem w_lcL (q : tl σ H fun x H1 => CompL K g tt te ws σ x H1 Q) : tLc (iList K tl) g tt te ws σ H Q := q
theorem w_lcT (q : tl σ H fun x H1 => CompT K g tt te ws σ x H1 Q) : tLc (iTup K tl) g tt te ws σ H Q := q
theorem w_lcR (q : ta σ H fun vs H1 => CompR g tt te ws σ vs H1 Q) : tLc (iRng1 ta) g tt te ws σ H Q := q
theorem k_forT {nx bk ct : L2.St → Hp → Prop} {rt : VK} (Pv : Nat → St → Hp → Prop) (h : H p = some (.tup xs)) (h0 : Pv 0 σ H) (hl : ∀ i σ H, Pv i σ H → H p = some (.tup xs))
    (hs : ∀ i x σ H, xs[i]? = some x → Pv i σ H → g x σ H fun σ2 H2 => tb ⟨Pv (i + 1), rt, nx, Pv (i + 1)⟩ σ2 H2) (hd : ∀ σ H, Pv xs.length σ H → nx σ H) : ForT K g tb ⟨nx, rt, bk, ct⟩ σ (.ref p) H :=
  ⟨p, rfl, ⟨_, SqT.of h⟩, for_tup (xs := xs) Pv h0 (fun i σ H _ q => SqT.of (hl i σ H q)) hs hd⟩
theorem k_forL {nx bk ct : L2.St → Hp → Prop} {rt : VK} (Pv : Nat → St → Hp → Prop) (h : SqL K H p xs) (h0 : Pv 0 σ H) (hl : ∀ i σ H, Pv i σ H → SqL K H p xs)
    (hs : ∀ i x σ H, xs[i]? = some x → Pv i σ H → g x σ H fun σ2 H2 => tb ⟨Pv (i + 1), rt, nx, Pv (i + 1)⟩ σ2 H2) (hd : ∀ σ H, Pv xs.length σ H → nx σ H) : ForL K g tb ⟨nx, rt, bk, ct⟩ σ (.ref p) H :=
  ⟨p, rfl, ⟨_, h⟩, for_list (xs := xs) Pv h0 (fun i σ H _ q => hl i σ H q) hs hd⟩
theorem k_forR {nx bk ct : L2.St → Hp → Prop} {rt : VK} {n : Int} (Pv : Nat → St → Hp → Prop) (h1 : -(2 ^ 62) ≤ n) (h2 : n < 2 ^ 62) (h0 : Pv 0 σ H)
    (hs : ∀ i σ H, i < n.toNat → Pv i σ H → g (.int (0 + (i : Nat))) σ H fun σ2 H2 => tb ⟨Pv (i + 1), rt, nx, Pv (i + 1)⟩ σ2 H2) (hd : ∀ σ H, Pv n.toNat σ H → nx σ H) : ForR g tb ⟨nx, rt, bk, ct⟩ σ [.int n] H :=
  ⟨n, rfl, h1, h2, for_range (lo := 0) (n := n.toNat) Pv h0 hs hd⟩
theorem k_lcR {n : Int} (Pv : Nat → Addr → Hp → Prop) (h1 : -(2 ^ 62) ≤ n) (h2 : n < 2 ^ 62) (h0 : ∀ D, H D = none → Pv 0 D (upd H D (.lst [])))
    (hs : ∀ i D H, i < n.toNat → Pv i D H → g (.int (0 + (i : Nat))) (wipe σ ws) H fun σ2 H2 => wipe σ2 ws = wipe σ ws ∧ tt σ2 H2 fun b H3 =>
      if b = true then te σ2 H3 fun y H4 => ∃ acc, H4 D = some (.lst acc) ∧ acc.length < sizeLine ∧ Pv (i + 1) D (upd H4 D (.lst (acc ++ [y]))) else Pv (i + 1) D H3) (hd : ∀ D H, Pv n.toNat D H → Q (.ref D) H) : CompR g tt te ws σ [.int n] H Q :=
  ⟨n, rfl, h1, h2, fun D hD => lc_range (lo := 0) (n := n.toNat) (fun i H => Pv i D H) (h0 D hD) (fun i H hi q => hs i D H hi q) (fun H q => hd D H q)⟩
theorem k_lcL (Pv : Nat → Addr → Hp → Prop) (h : SqL K H p xs) (h0 : ∀ D, H D = none → Pv 0 D (upd H D (.lst []))) (hl : ∀ i D H, Pv i D H → SqL K H p xs)
    (hs : ∀ i x D H, xs[i]? = some x → Pv i D H → g x (wipe σ ws) H fun σ2 H2 => wipe σ2 ws = wipe σ ws ∧ tt σ2 H2 fun b H3 =>
      if b = true then te σ2 H3 fun y H4 => ∃ acc, H4 D = some (.lst acc) ∧ acc.length < sizeLine ∧ Pv (i + 1) D (upd H4 D (.lst (acc ++ [y]))) else Pv (i + 1) D H3) (hd : ∀ D H, Pv xs.length D H → Q (.ref D) H) : CompL K g tt te ws σ (.ref p) H Q :=
  ⟨p, rfl, ⟨_, h⟩, fun D hD => lc_list (xs := xs) (fun i H => Pv i D H) (h0 D hD) (fun i H _ q => hl i D H q) (fun i x H hx q => hs i x D H hx q) (fun H q => hd D H q)⟩
end
/-! ### instances made -/
/-- C(..): what is asked -/
def MkC (C : Addr) (sp : Sp) (E : XK) (vs : List V) (H : Hp) (Q : VK) : Prop := ∀ x dx, H x = none → H dx = none → dx ≠ x →
  sp (.ref x :: vs) (upd (upd H dx (.own x)) x (.ins C dx [])) (fun v H2 => v = .non ∧ Q (.ref x) H2) E
theorem w_mkC {C : Addr} {sp : Sp} {E : L2.St → XK} {tl : TA} {σ : L2.St} {H : Hp} {Q : VK} (q : tl σ H fun vs H1 => MkC C sp (E σ) vs H1 Q) : tMakeS C sp E tl σ H Q := q
/-- o.m(..): what is asked of o -/
def MethP (C : Addr) (m : Str) (x : V) (H : Hp) (N : Hp → Prop) : Prop := ∃ a dx fs, x = .ref a ∧ H a = some (.ins C dx fs) ∧ fs.lookup m = none ∧ N H
theorem w_meth {C : Addr} {m : Str} {sp : Sp} {E : L2.St → XK} {ta : TE} {tl : TA} {σ : L2.St} {H : Hp} {Q : VK} (q : ta σ H fun x H1 => MethP C m x H1 fun H2 => tl σ H2 fun vs H3 => sp (x :: vs) H3 Q (E σ)) : tMethS C m sp E ta tl σ H Q := q
theorem k_meth {C a dx : Addr} {m : Str} {fs : List (Str × V)} {H : Hp} {N : Hp → Prop} (h : H a = some (.ins C dx fs)) (l : fs.lookup m = none) (q : N H) : MethP C m (.ref a) H N := ⟨a, dx, fs, rfl, h, l, q⟩
theorem rf_none {t r b : Int} {m : Str} (h1 : (m == ("top" : Str)) = false) (h2 : (m == ("root" : Str)) = false) (h3 : (m == ("bottom" : Str)) = false) : (rootF t r b).lookup m = none := by simp [rootF, List.lookup, h1, h2, h3]
/-! ### own errors with one field -/
def spX (C : Addr) (f : Str) : Sp := fun vs H Q _ => ∃ (a : Addr) (v : V), vs = [.ref a, v] ∧ H a = some (exo a C none) ∧ ∀ d, H d = none → d ≠ a → Q .non (upd (upd H d (exd d [(f, v)])) a (exo a C (some d)))
/-- an own error made: what is asked -/
def MkOP (C : Addr) (sp : Sp) (vs : List V) (H : Hp) (Q : XK) : Prop := vs.length ≤ 1000 ∧ ∀ a, H a = none → sp (.ref a :: (vs ++ [])) (upd H a (exo a C none))
    (fun v H2 => v = .non ∧ ∃ (d : Addr) (fs : List (Str × V)), H2 a = some (exo a C (some d)) ∧ H2 d = some (exd d fs) ∧ H d = none ∧ Q (.ref C) (some d) (upd (del H2 a) d (.xd fs))) (fun _ _ _ => False)
theorem w_mkO {C : Addr} {sp : Sp} {tl : TA} {σ : St} {H : Hp} {Q : XK} (q : tl σ H fun vs H1 => MkOP C sp vs H1 Q) : tMkO C sp [] tl σ H Q := q
theorem k_mkO {C : Addr} {f : Str} {v : V} {H : Hp} {Q : XK} (h : ∀ d H2, H d = none → Same H H2 → H2 d = some (.xd [(f, v)]) → Q (.ref C) (some d) H2) : MkOP C (spX C f) [v] H Q := by
  refine ⟨by simp, fun a ha => ⟨a, v, rfl, upd_same, fun d hd hn => ⟨rfl, d, [(f, v)], upd_same, ?_, ?_, ?_⟩⟩⟩
  · rw [upd_ne hn, upd_same]
  · rw [upd_ne hn] at hd; exact hd
  · have hd' : H d = none := by rw [upd_ne hn] at hd; exact hd
    refine h d _ hd' (fun b o e => ?_) upd_same
    have n1 : b ≠ d := ne_of_none e hd'
    have n2 : b ≠ a := ne_of_none e ha
    rw [upd_ne n1, del_ne n2, upd_ne n2, upd_ne n1, upd_ne n2]
    exact e
end L2.My

/-! W3: built-ins by name, stores into lists, products, the state that laws draw from. -/
namespace L2.My
open PySem PySem.Spec PyProof.Rows
section
variable {X : Cx} {K : PySem.W.Frag} {σ : L2.St} {H : Hp} {Q : VK} {te : TE} {tl : TA} {a p : Addr} {xs : List V} {i j : Int} {v : V}
def rInt : List V → Hp → VK → Prop := fun vs H Q => (∃ i, vs = [.int i] ∧ Q (.int i) H) ∨ ∃ k, vs = [.bl k] ∧ Q (.int (if k then 1 else 0)) H
theorem cn_int : CallR X (.type "int") rInt := call_int1
theorem w_int (q : Q (.int i) H) : rInt [.int i] H Q := .inl ⟨i, rfl, q⟩
theorem w_intB {b : Bool} (q : Q (.int (if b then 1 else 0)) H) : rInt [.bl b] H Q := .inr ⟨b, rfl, q⟩
def rAbs : List V → Hp → VK → Prop := fun vs H Q => ∃ i, vs = [.int i] ∧ Q (.int (if i < 0 then -i else i)) H
theorem cn_abs : CallR X (.builtin "abs") rAbs := call_abs
theorem w_abs (q : Q (.int (i.natAbs : Int)) H) : rAbs [.int i] H Q := ⟨i, rfl, by
  have e : (if i < 0 then -i else i) = (i.natAbs : Int) := by split <;> omega
  rw [e]; exact q⟩
def rLen (K : PySem.W.Frag) : List V → Hp → VK → Prop := fun vs H Q => ∃ x n, vs = [x] ∧ LenV K x H n ∧ Q (.int n) H
theorem cn_len : CallR X (.builtin "len") (rLen X.K) := call_len
theorem w_lenL (h : SqL K H a xs) (q : Q (.int (xs.length : Nat)) H) : rLen K [.ref a] H Q := ⟨_, _, rfl, .inl ⟨_, h, rfl⟩, q⟩
theorem w_lenT (h : SqT K H a xs) (q : Q (.int (xs.length : Nat)) H) : rLen K [.ref a] H Q := ⟨_, _, rfl, .inr ⟨_, h, rfl⟩, q⟩
def rListOf (K : PySem.W.Frag) : List V → Hp → VK → Prop := fun vs H Q => ∃ p ys, vs = [.ref p] ∧ (SqL K H p ys ∨ SqT K H p ys) ∧ ∀ l, H l = none → Q (.ref l) (upd H l (.lst ys))
theorem cn_list : CallR X (.type "list") (rListOf X.K) := call_list_of
theorem w_listL (h : SqL K H a xs) (q : ∀ l H2, H l = none → Same H H2 → H2 l = some (.lst xs) → Q (.ref l) H2) : rListOf K [.ref a] H Q := ⟨a, xs, rfl, .inl h, fun l hl => q l _ hl (Same.new hl) upd_same⟩
theorem w_listT (h : SqT K H a xs) (q : ∀ l H2, H l = none → Same H H2 → H2 l = some (.lst xs) → Q (.ref l) H2) : rListOf K [.ref a] H Q := ⟨a, xs, rfl, .inr h, fun l hl => q l _ hl (Same.new hl) upd_same⟩
def NewD (H : Hp) (Q : VK) : Prop := ∀ p, H p = none → Q (.ref p) (upd H p (.dK []))
theorem w_dnew (q : NewD H Q) : tDNewK σ H Q := q
theorem k_dnew (q : ∀ p H2, H p = none → Same H H2 → H2 p = some (.dK []) → Q (.ref p) H2) : NewD H Q := fun p hp => q p _ hp (Same.new hp) upd_same
/-- a slice of a list -/
def SlP (r : V → Option Int → Option Int → Hp → VK → Prop) (x : V) (lo hi : Option Int) (H : Hp) (Q : VK) : Prop := r x lo hi H Q
theorem w_sl {r : V → Option Int → Option Int → Hp → VK → Prop} {t1 t2 : TO} (q : te σ H fun x H1 => t1 σ H1 fun l H2 => t2 σ H2 fun u H3 => SlP r x l u H3 Q) : tSl r te t1 t2 σ H Q := q
theorem k_slL {lo hi : Option Int} (h : SqL K H a xs) (q : ∀ l H2, H l = none → Same H H2 → H2 l = some (.lst (cutV xs lo hi)) → Q (.ref l) H2) : SlP (rSlL K) (.ref a) lo hi H Q := ⟨a, xs, rfl, h, fun l hl => q l _ hl (Same.new hl) upd_same⟩
theorem w_poN {QO : Option Int → Hp → Prop} (q : QO none H) : tNoPart σ H QO := q
theorem w_poS {QO : Option Int → Hp → Prop} (q : te σ H fun x H1 => ∃ i, x = .int i ∧ QO (some i) H1) : tPart te σ H QO := q
theorem w_exI {p : Int → Prop} (q : p i) : ∃ k, V.int i = .int k ∧ p k := ⟨i, rfl, q⟩
/-- xs[i] = v -/
theorem w_gsub {to ti : TE} {t : TSet} {N : L2.St → Hp → Prop} (q : to σ H fun o H1 => ti σ H1 fun i H2 => t o i v H2 fun H3 => N σ H3) : gSub to ti t v σ H N := q
theorem w_setL {N : Hp → Prop} {n : Nat} (h : H a = some (.lst xs)) (e : ixN xs.length i = some n) (q : ∀ H2, SameX a H H2 → H2 a = some (.lst (xs.set n v)) → N H2) : rSetL (.ref a) (.int i) v H N :=
  ⟨a, xs, i, n, rfl, rfl, h, e, q _ (SameX.upd fun _ _ _ e => e) upd_same⟩
theorem w_yes {QB : Bool → Hp → Prop} (q : QB true H) : tYes σ H QB := q
/-- ways meet behind a statement -/
theorem w_cut {ts us : TS} {nx bk ct : L2.St → Hp → Prop} {rt : VK} (Mid : L2.St → Hp → Prop) (h : ts ⟨Mid, rt, bk, ct⟩ σ H) (q : ∀ σ' H', Mid σ' H' → us ⟨nx, rt, bk, ct⟩ σ' H') : C8.tCut ts us ⟨nx, rt, bk, ct⟩ σ H := ⟨Mid, h, q⟩
theorem w_cutE {ts us : TS} {nx bk ct : L2.St → Hp → Prop} {rt : VK} {σ' : L2.St} {H' : Hp} (h : ts ⟨fun σ1 H1 => σ1 = σ' ∧ H1 = H', rt, bk, ct⟩ σ H) (q : us ⟨nx, rt, bk, ct⟩ σ' H') : C8.tCut ts us ⟨nx, rt, bk, ct⟩ σ H := ⟨_, h, fun _ _ e => by rw [e.1, e.2]; exact q⟩
/-- products: one factor is small, or both together are not too large -/
def CMulS (i j : Int) : Prop := (-18446744073709551616 < i ∧ i < 18446744073709551616) ∨ (-18446744073709551616 < j ∧ j < 18446744073709551616) ∨ CMulW i j
theorem op_mulS : OpR X (binaryOp .Mult) (rI CMulS fun i j => .int (i * j)) := opI fun _ _ _ _ _ _ _ hc q => by
  rcases hc with h | h | h
  · exact mul_int q (CMul.ok (.inl h))
  · exact mul_int q (CMul.ok (.inr h))
  · exact mul_int q h.ok
theorem atI_ints {ns : List Int} {k : Int} (h0 : 0 ≤ k) (h1 : k < (ns.length : Int)) : ∃ z, atI (ns.map V.int) k = some (.int z) := by
  obtain ⟨n, rfl⟩ := Int.eq_ofNat_of_zero_le h0
  have hn : n < ns.length := by omega
  exact ⟨ns[n], atI_nat (by simp [hn])⟩
theorem cut_ints (ns : List Int) (lo hi : Option Int) : ∃ ms : List Int, cutV (ns.map V.int) lo hi = ms.map V.int := by
  unfold cutV
  exact ⟨((ns.drop (HT.sIx (ns.map V.int).length 0 lo)).take (HT.sIx (ns.map V.int).length (ns.map V.int).length hi - HT.sIx (ns.map V.int).length 0 lo)), by rw [List.map_take, List.map_drop]⟩
/-- a number that is not too great; omega doesn't see into it -/
def Bd (x : Int) : Prop := x.natAbs < 2 ^ 8000
/-! ### data compared -/
theorem dp_ints : ∀ ns : List Int, DpAll K H (ns.map V.int) (ns.map PyData.int)
  | [] => .nil
  | n :: ns => .cons (.int n) (dp_ints ns)
theorem can_ints : ∀ ns : List Int, PyData.canLayAll0 (ns.map PyData.int) = true
  | [] => rfl
  | n :: ns => by simp only [List.map_cons, PyData.canLayAll0, PyData.canLay0, can_ints ns, Bool.and_self]
theorem depth_ints : ∀ ns : List Int, PyData.depthAll (ns.map PyData.int) = 0
  | [] => rfl
  | n :: ns => by simp only [List.map_cons, PyData.depthAll, PyData.depth, depth_ints ns]; rfl
theorem eqv_ints : ∀ ns ms : List Int, PyData.eqvAll (ns.map PyData.int) (ms.map PyData.int) = decide (ns = ms)
  | [], [] => rfl
  | [], _ :: _ => rfl
  | _ :: _, [] => rfl
  | n :: ns, m :: ms => by
    simp only [List.map_cons, PyData.eqvAll, PyData.eqv, eqv_ints ns ms, List.cons.injEq, Bool.decide_and]
    rfl
theorem shaped_ints (ns : List Int) : SeqAt.shaped (.tuple (ns.map PyData.int)) = true := by
  simp only [SeqAt.shaped, PyData.canLay0, can_ints, PyData.depth, depth_ints]; decide
theorem w_eqT {b : Addr} {ns ms : List Int} (h1 : H a = some (.tup (ns.map V.int))) (h2 : H b = some (.tup (ms.map V.int))) (q : Q (.bl (decide (ns = ms))) H) : rEqD K (.ref a) (.ref b) H Q :=
  ⟨.tuple (ns.map .int), .tuple (ms.map .int), .tup (SqT.of h1) (dp_ints ns), .tup (SqT.of h2) (dp_ints ms), shaped_ints _, shaped_ints _, by rw [PyData.eqv, eqv_ints]; exact q⟩
/-- == of plain things: data of any depth, dicts -/
def rEqU (K : PySem.W.Frag) : R2 := fun x y H Q => rEqD K x y H Q ∨ rEqDA x y H Q
theorem op_eqU (hu : X.A.units + 64 < cLine) : OpR X (compareOp .Eq) (rEqU X.K) := (op_eqD hu).or (op_eq_dictA (by omega))
/-- a thing that == finds equal to itself -/
inductive Selfy (H : Hp) : V → Prop
  | non : Selfy H .non
  | int (i : Int) : Selfy H (.int i)
  | str (s : Str) (h : SeqAt.shaped (.str s) = true) : Selfy H (.str s)
  | lst (a : Addr) (ns : List Int) (e : H a = some (.lst (ns.map V.int))) : Selfy H (.ref a)
  | tup (a : Addr) (ns : List Int) (e : H a = some (.tup (ns.map V.int))) : Selfy H (.ref a)
  | dK (a : Addr) (e : H a = some (.dK [])) : Selfy H (.ref a)
theorem shaped_intsL (ns : List Int) : SeqAt.shaped (.list (ns.map PyData.int)) = true := by
  simp only [SeqAt.shaped, PyData.canLay0, can_ints, PyData.depth, depth_ints]; decide
theorem w_eqSelf (h : Selfy H v) (q : Q (.bl true) H) : rEqU K v v H Q := by
  have go : ∀ d, Dp K H v d → SeqAt.shaped d = true → rEqU K v v H Q := fun d hd sd => .inl ⟨d, d, hd, hd, sd, sd, by rw [SeqAt.eqv_refl d (SeqAt.canLay_of_shaped sd)]; exact q⟩
  cases h with
  | non => exact go _ .non (by decide +kernel)
  | int i => exact go _ (.int i) rfl
  | str s h => exact go _ (.str s) h
  | lst a ns e => exact go _ (.lst (SqL.of e) (dp_ints ns)) (shaped_intsL ns)
  | tup a ns e => exact go _ (.tup (SqT.of e) (dp_ints ns)) (shaped_ints ns)
  | dK a e => exact .inr ⟨a, a, [], [], rfl, rfl, e, e, rfl, (fun _ h => nomatch h), q⟩
/-- a thing of the law's own: a kind that is known, and if it is no int, one that is found equal to itself -/
structure Odd (c : Addr) (H : Hp) (v : V) : Prop where
  th : Th c H v
  eq : isI v = false → (∃ b, v = .bl b) ∨ isB v = false ∧ Selfy H v
theorem Odd.sx {c p : Addr} {H H' : Hp} (h : Odd c H v) (h3 : ∀ a, v = .ref a → a ≠ p) (s : SameX p H H') : Odd c H' v := by
  obtain ⟨h1, h2⟩ := h
  refine ⟨?_, fun z => ?_⟩
  · cases h1 with
    | non => exact .non
    | bl b => exact .bl b
    | int i => exact .int i
    | str s => exact .str s
    | lst a xs e => exact .lst a xs (s _ _ (h3 a rfl) e)
    | tup a xs e => exact .tup a xs (s _ _ (h3 a rfl) e)
    | dK a xs e => exact .dK a xs (s _ _ (h3 a rfl) e)
    | root a dx t r b e => exact .root a dx t r b (s _ _ (h3 a rfl) e)
  · rcases h2 z with h | ⟨hb, h⟩
    · exact .inl h
    · refine .inr ⟨hb, ?_⟩
      cases h with
      | non => exact .non
      | int i => exact .int i
      | str s h => exact .str s h
      | lst a ns e => exact .lst a ns (s _ _ (h3 a rfl) e)
      | tup a ns e => exact .tup a ns (s _ _ (h3 a rfl) e)
      | dK a e => exact .dK a (s _ _ (h3 a rfl) e)
theorem Odd.int {c : Addr} (i : Int) : Odd c H (.int i) := ⟨.int i, fun e => by cases e⟩
theorem w_Tself {α : Type} [DecidableEq α] {x : α} {A B : Prop} (q : A) : if decide (x = x) = true then A else B := by rw [decide_eq_true rfl]; exact iteT q
theorem w_Fself {α : Type} [DecidableEq α] {x : α} {A B : Prop} (q : B) : if (!decide (x = x)) = true then A else B := by rw [decide_eq_true rfl]; exact iteF q
theorem w_isB {b c : Bool} (q : Q (.bl (decide (b = c))) H) : rIsB (.bl b) (.bl c) H Q := ⟨b, c, rfl, rfl, q⟩
/-- the state that a law draws from stands at p, its cells at q -/
def StA (H : Hp) (p q : Addr) : Prop := ∃ (ns : List Int) (at_ pend : Int), H p = some (.lst [.ref q, .int at_, .int pend]) ∧ H q = some (.lst (ns.map V.int)) ∧ q ≠ p ∧ 0 ≤ at_ ∧ 0 ≤ pend
theorem StA.same {H H' : Hp} {p q : Addr} (h : StA H p q) (s : Same H H') : StA H' p q := by
  obtain ⟨ns, at_, pend, h1, h2, h3⟩ := h
  exact ⟨ns, at_, pend, s _ _ h1, s _ _ h2, h3⟩
theorem sz_lt {n : Nat} (h : n < 1000) : n < sizeLine := Nat.lt_of_lt_of_le h (by decide)
/-- a new object is another one -/
theorem StA.new {H : Hp} {p q b : Addr} (h : StA H p q) (e : H b = none) : b ≠ p ∧ b ≠ q := by
  obtain ⟨ns, at_, pend, h1, h2, _⟩ := h
  exact ⟨fun z => (by rw [z, h1] at e; cases e), fun z => (by rw [z, h2] at e; cases e)⟩
/-- a change elsewhere -/
theorem StA.other {H : Hp} {p q b : Addr} {o : HO} (h : StA H p q) (n : b ≠ p ∧ b ≠ q) : StA (upd H b o) p q := by
  obtain ⟨ns, at_, pend, h1, h2, h3⟩ := h
  exact ⟨ns, at_, pend, by rw [upd_ne (Ne.symm n.1)]; exact h1, by rw [upd_ne (Ne.symm n.2)]; exact h2, h3⟩
theorem StA.otherX {H H' : Hp} {p q b : Addr} (h : StA H p q) (n : b ≠ p ∧ b ≠ q) (s : SameX b H H') : StA H' p q := by
  obtain ⟨ns, at_, pend, h1, h2, h3⟩ := h
  exact ⟨ns, at_, pend, s _ _ (Ne.symm n.1) h1, s _ _ (Ne.symm n.2) h2, h3⟩
/-- another object than the state -/
theorem StA.ne {H : Hp} {p q b : Addr} {o : HO} (h : StA H p q) (e : H b = some o) (n : ∀ xs, o ≠ .lst xs) : b ≠ p := by
  obtain ⟨ns, at_, pend, h1, _⟩ := h
  exact ne_of e h1 (n _)
/-- a comprehension over a range whose turns draw: ints of which P holds -/
theorem k_lcDraw {st sc : Addr} {n : Int} {ws : List Nat} {slot : Nat} {te : TE} {P : Int → Prop} (h1 : -(2 ^ 62) ≤ n) (h2 : n ≤ 500) (hs : StA H st sc)
    (hw : ∀ z, wipe ((wipe σ ws).set slot (some (.int z))) ws = wipe σ ws)
    (turn : ∀ z H', StA H' st sc → SameX st H H' → ∀ N : VK, (∀ y H2, P y → SameX st H' H2 → StA H2 st sc → N (.int y) H2) → te ((wipe σ ws).set slot (some (.int z))) H' N)
    (hd : ∀ (D : Addr) (H' : Hp) (ms : List Int), H' D = some (.lst (ms.map V.int)) → ms.length = n.toNat → (∀ z ∈ ms, P z) → D ≠ st ∧ D ≠ sc → StA H' st sc → SameX st H H' → Q (.ref D) H') : CompR (gName slot) tYes te ws σ [.int n] H Q := by
  refine k_lcR (fun i D H' => H D = none ∧ ∃ ms : List Int, H' D = some (.lst (ms.map V.int)) ∧ ms.length = i ∧ (∀ z ∈ ms, P z) ∧ (D ≠ st ∧ D ≠ sc) ∧ StA H' st sc ∧ SameX st H H') h1 (by omega) (fun D hD => ⟨hD, [], upd_same, rfl, (fun _ h => nomatch h), hs.new hD, hs.same (Same.new hD), Same.x (Same.new hD)⟩) ?_ ?_
  · rintro i D H' hi ⟨hD, ms, e1, e2, e3, e4, e5, e6⟩
    refine ⟨hw _, ?_⟩
    refine w_yes (w_T rfl ?_)
    refine turn _ H' e5 e6 _ fun y H2 py s2 st2 => ?_
    refine ⟨_, s2 _ _ e4.1 e1, by rw [List.length_map, e2]; exact sz_lt (by omega), hD, ms ++ [y], by rw [List.map_append]; exact upd_same, by rw [List.length_append, e2]; rfl, ?_, e4, st2.other e4, fun b o nb e => ?_⟩
    · intro m hm
      rcases List.mem_append.mp hm with h | h
      · exact e3 m h
      · obtain rfl : m = y := by simpa using h
        exact py
    · rw [upd_ne (ne_of_none e hD)]
      exact s2 _ _ nb (e6 _ _ nb e)
  · rintro D H' ⟨hD, ms, e1, e2, e3, e4, e5, e6⟩
    exact hd D H' ms e1 e2 e3 e4 e5 e6
/-- a comprehension over a list of ints, without draws: ints again -/
theorem k_lcInts {p : Addr} {ns : List Int} {ws : List Nat} {slot : Nat} {te : TE} {f : Int → Int} (h : SqL K H p (ns.map V.int)) (hl : ns.length ≤ 500)
    (hw : ∀ z, wipe ((wipe σ ws).set slot (some (.int z))) ws = wipe σ ws) (hsame : ∀ H', Same H H' → SqL K H' p (ns.map V.int))
    (turn : ∀ z H', z ∈ ns → Same H H' → ∀ N : VK, N (.int (f z)) H' → te ((wipe σ ws).set slot (some (.int z))) H' N)
    (hd : ∀ D H', H D = none → Same H H' → H' D = some (.lst ((ns.map f).map V.int)) → Q (.ref D) H') : CompL K (gName slot) tYes te ws σ (.ref p) H Q := by
  refine k_lcL (xs := ns.map V.int) (fun i D H' => H D = none ∧ Same H H' ∧ H' D = some (.lst (((ns.take i).map f).map V.int))) h (fun D hD => ⟨hD, Same.new hD, upd_same⟩) (fun i D H' e => hsame H' e.2.1) ?_ ?_
  · rintro i x D H' hx ⟨hD, s1, e1⟩
    have hi : i < ns.length := by
      have := (List.getElem?_eq_some_iff.mp hx).1
      rwa [List.length_map] at this
    obtain rfl : x = V.int ns[i] := by
      rw [List.getElem?_map, List.getElem?_eq_getElem hi] at hx
      exact (Option.some.inj hx).symm
    refine ⟨hw _, ?_⟩
    refine w_yes (w_T rfl ?_)
    refine turn _ H' (List.getElem_mem hi) s1 _ ?_
    refine ⟨_, e1, by rw [List.length_map, List.length_map, List.length_take]; exact sz_lt (by omega), hD, fun b o e => ?_, ?_⟩
    · rw [upd_ne (ne_of_none e hD)]
      exact s1 b o e
    · have e : ns.take (i + 1) = ns.take i ++ [ns[i]] := by rw [List.take_add_one, List.getElem?_eq_getElem hi]; rfl
      rw [upd_same, e, List.map_append, List.map_append]
      rfl
  · rintro D H' ⟨hD, s1, e1⟩
    rw [List.length_map, List.take_length] at e1
    exact hd D H' hD s1 e1
end
end L2.My

/-! W4: isinstance of a caught own error that bears a field. -/
namespace PySem.W
open PySem PySem.Spec PySem.Calls PyProof.Rows
section
variable {prog : Program} {w : World} {A : Around} {E : Value → Shared → Prop} {s : Shared} {K : Frag} {x D : Addr} {ox od : Obj}
/-- what the class of such an error says -/
structure XiC (K : Frag) (D : Addr) : Prop where
  hga : findIn K (.ref D) "__getattribute__" = some (some (.builtin "BaseException.__getattribute__"))
  hgt : findIn K (.ref D) "__getattr__" = some none
  hsub : subIn K (.ref D) (.type "BaseException") = some true
  hdct : hasDictIn K D = true
  ha : findIn K (.ref D) "__class__" = some (some (.builtin "object.__class__"))
  hn : specialIn K (.builtin "object.__class__") "__get__" = some (some (.builtin "getset_descriptor.__get__"))
  htk : takesIn K (.builtin "object.__class__") = some true
  hm : mroIn K D (.type "object") = some true
theorem xi_class {Q : Option Value → Shared → Prop} (T : XiC K D) (X : K.In s.heap) (I : InstAt s.heap x ox D (some od)) (h : Q (some (.ref D)) { s with toks := s.toks + 1 }) : wpAny (model prog w) A (getAttr? (.ref x) "__class__") Q E s := by
  have fnd : findObj K D (some od) "__class__" = some (.bind (.builtin "getset_descriptor.__get__") (.builtin "object.__class__")) := findObj_data (by obtain ⟨cd, hc, _⟩ := any_some T.hdct; rw [hc]; rfl) T.ha T.hn T.htk
  obtain ⟨hp, g, d, t, os⟩ := s
  have l0 := I.type (M := model prog w)
  have l1 := looks_findIn (M := model prog w) X T.hga
  have l2 := looks_findIn (M := model prog w) X T.hgt
  have l3 := looks_find (M := model prog w) X I fnd
  have sb : Looks (model prog w) hp (isInstance (.ref x) (.type "BaseException")) true := l0.andThen (looks_subIn X T.hsub)
  have n0 : (false && onTheHeap (Value.builtin "BaseException.__getattribute__")) = false := rfl
  have n2 : (Value.builtin "BaseException.__getattribute__" == Value.builtin "object.__getattribute__") = false := by decide +kernel
  have n1 : (onTheHeap (Value.ref D) && Value.builtin "BaseException.__getattribute__" == Value.builtin "object.__getattribute__") = false := by rw [n2]; rfl
  unfold getAttr? getAttrBy? getAttrBy
  refine wpAny_bind (wpAny_mkText (wpAny_bind (wpAny_attempt (wpAny_holding (wpAny_bind (l0.at (wpAny_bind (l1.at ?_))))))))
  dsimp only
  rw [n1, if_neg Bool.false_ne_true]
  unfold getAttrByItsOwn hookBefore
  refine wpAny_bind ?_
  rw [if_pos (show onTheHeap (Value.ref D) = true from rfl)]
  refine l2.at (wpAny_bind (wpAny_attempt (wpAny_holding ?_)))
  unfold callGetattribute
  rw [n0, if_neg Bool.false_ne_true]
  unfold boundAndCalled
  rw [PySem.F.excAttr_ValueError.ga.bind (.ref x)]
  refine wpAny_bind (wpAny_pure ?_)
  show wpAny _ _ (call (.builtin "BaseException.__getattribute__") [.ref x, .str "__class__" t]) _ _ _
  refine wpAny_call (codeAny_call_builtin PySem.F.excAttr_ValueError.ga.plain PySem.F.entry_bexc_ga ?_)
  refine @check_slot (model prog w) _ _ ⟨hp, g, d, t + 1, os⟩ "BaseException.__getattribute__" "BaseException" "__getattribute__" (.ref x) [.str "__class__" t] [] _ (by decide +kernel) (by decide +kernel) sb (PySem.F.args_bexc_ga (.ref x) (.str "__class__" t)) ?_
  unfold Builtin.«object.__getattribute__»
  refine wpAny_bind (wpAny_of_eq (a := ((Value.ref x : Value), [Value.str "__class__" t])) (by first | rfl | (simp only [slotArgs]; rfl)) ?_)
  refine wpAny_bind (wpAny_pure (wpAny_bind (l0.at (wpAny_bind (l3.at ?_)))))
  show wpAny _ _ (holding [Value.builtin "object.__class__"] (call (.builtin "getset_descriptor.__get__") [.builtin "object.__class__", .ref x, .ref D]) >>= ret) _ _ _
  refine wpAny_bind (wpAny_holding (wpAny_call (class_get (s := ⟨hp, g, d, t + 1, os⟩) (ox := ox) (od := some od) X I T.hm ?_)))
  refine wpAny_pure ?_
  show wpAny _ _ (handedOut (.ref D)) _ _ _
  rw [handedOut_of (v := .ref D) rfl]
  first
    | exact wpAny_pure (wpAny_pure h)
    | exact wpAny_pure h
    | exact wpAny_pure (wpAny_bind (wpAny_pure (wpAny_pure h)))
theorem xi_kitx (T : XiC K D) : KitX K (.ref x) (.ref D) (fun h => ∃ ox od, InstAt h x ox D (some od)) where
  ty := fun _ _ _ ⟨_, _, I⟩ => I.type
  it := fun _ _ X _ => by
    obtain ⟨cdD, hcD, _⟩ := any_some T.hdct
    unfold clsIn at hcD
    split at hcD
    · rename_i c' d' cd' sl' ho
      intro A' Q' E' s' k q
      unfold isType loadHead
      exact wpAny_bind (wpAny_loadPart (k _ _ (X _ _ ho)) (wpAny_pure q))
    · cases hcD
  ne := fun h tp dd its n sl X htp => by
    obtain ⟨cdD, hcD, _⟩ := any_some T.hdct
    refine Bool.eq_false_iff.mpr fun q => ?_
    have e : D = tp := Value.ref.inj (beq_iff_eq.mp q)
    subst e
    unfold clsIn at hcD
    split at hcD
    · rename_i c' d' cd' sl' ho
      have z := (X _ _ ho).symm.trans htp
      cases z
    · cases hcD
  ca := fun X ⟨_, _, I⟩ k => xi_class T X I k
end
end PySem.W
namespace L2.My
open PySem PySem.Spec PyProof.Rows
/-- isinstance(e, c), e the own error that the suite holds -/
def rIsX (K : PySem.W.Frag) (D a : Addr) (cls : Value) (d : Option Addr) : List V → Hp → VK → Prop := fun xs H Q => ∃ (c : V) (cv : Value) (b : Bool) (dd : Addr) (fs : List (Str × V)), xs = [.ref a, c] ∧ cls = .ref D ∧ d = some dd ∧ H dd = some (.xd fs) ∧
  (∀ u, RelV c u → u = cv) ∧ PySem.W.kitOne K (.ref D) cv = some b ∧ Q (.bl b) H
theorem cn_isX {X : Cx} {a D : Addr} {cls : Value} {d : Option Addr} {oe : Obj} {pn : List (Addr × Obj)} (T : PySem.W.XiC X.K D) (hz : Zc cls d oe) (hf : ∃ vs, oe.data = .fields vs) : CallR (X.suite a ((a, oe) :: pn)) (.builtin "isinstance") (rIsX X.K D a cls d) := by
  intro pins s σ H xs us Q I r h
  obtain ⟨c, cv, b, dd, fs, rfl, rfl, rfl, ea, hcv, e, q⟩ := h
  obtain ⟨u1, u2, rfl, r1, r2⟩ := vals2 r
  cases (show u1 = Value.ref a from r1)
  have ec := hcv _ r2
  subst ec
  obtain ⟨hget, _⟩ := I.pin (a, oe) (List.mem_append_left _ List.mem_cons_self)
  obtain ⟨vs, hd⟩ := hf
  obtain ⟨mA, hns, hr⟩ := (show ObjOk X.prog X.w H s.heap dd (.xd fs) from I.hok dd _ ea)
  obtain ⟨od, ho, hl⟩ := lookIn_ns hns
  have J : PySem.W.InstAt s.heap a oe D (some od) := ⟨hget, hz.1, by unfold PySem.W.notCls; rw [hd] <;> rfl, by rw [hz.2]; exact ho⟩
  exact PySem.W.kia_one (PySem.W.xi_kitx T) I.kIn ⟨oe, od, J⟩ e (fun z => nomatch z) fun tk => ⟨.bl b, H, I.tok tk, rfl, q⟩
theorem w_isX {K : PySem.W.Frag} {D a : Addr} {d : Addr} {fs : List (Str × V)} {H : Hp} {Q : VK} {b : Bool} {C : Addr} (h : H d = some (.xd fs)) (k : PySem.W.kitOne K (.ref D) (.ref C) = some b) (q : Q (.bl b) H) : rIsX K D a (.ref D) (some d) [.ref a, .ref C] H Q :=
  ⟨.ref C, .ref C, b, d, fs, rfl, rfl, rfl, h, fun u r => r, k, q⟩
theorem w_isXT {K : PySem.W.Frag} {D a : Addr} {d : Addr} {fs : List (Str × V)} {H : Hp} {Q : VK} {b : Bool} {n : String} (h : H d = some (.xd fs)) (k : PySem.W.kitOne K (.ref D) (.type n) = some b) (q : Q (.bl b) H) : rIsX K D a (.ref D) (some d) [.ref a, .ty n] H Q :=
  ⟨.ty n, .type n, b, d, fs, rfl, rfl, rfl, h, fun u r => r, k, q⟩
/-- e.f in the suite: what is asked -/
def XfP (a : Addr) (cls : Value) (d : Option Addr) (C : Addr) (f : Str) (x : V) (H : Hp) (Q : VK) : Prop := x = .ref a ∧ cls = .ref C ∧ ∃ (dd : Addr) (fs : List (Str × V)) (v : V), d = some dd ∧ H dd = some (.xd fs) ∧ fs.lookup f = some v ∧ Q v H
theorem w_xf {a : Addr} {cls : Value} {d : Option Addr} {C : Addr} {f : Str} {te : TE} {σ : L2.St} {H : Hp} {Q : VK} (q : te σ H fun x H1 => XfP a cls d C f x H1 Q) : tXf a cls d C f te σ H Q := q
theorem k_xf {a d C : Addr} {f : Str} {v : V} {H : Hp} {Q : VK} (h : H d = some (.xd [(f, v)])) (q : Q v H) : XfP a (.ref C) (some d) C f (.ref a) H Q := ⟨rfl, rfl, d, _, v, rfl, h, by simp [List.lookup], q⟩
end L2.My

/-! W5: from what the head tells to what the walks ask. -/
namespace L2.My
open PySem PySem.Spec PyProof.Rows
theorem kit_eq {K : PySem.W.Frag} {t : Value} {C : Addr} (ic : PySem.W.isClsIn K C = true) (tc : PySem.W.typeIn K (.ref C) = some (.type "type")) : PySem.W.kitCls K t (.ref C) = PySem.W.subIn K t (.ref C) := by
  have e : ((PySem.W.clsIn K C).isSome && PySem.W.typeIn K (.ref C) == some (.type "type")) = true := by
    have h2' : (PySem.W.clsIn K C).isSome = true := ic
    rw [h2', tc] <;> rfl
  show (if ((PySem.W.clsIn K C).isSome && PySem.W.typeIn K (.ref C) == some (.type "type")) = true then PySem.W.subIn K t (.ref C) else none) = _
  rw [if_pos e]
theorem kit_ref {K : PySem.W.Frag} {t : Value} {C : Addr} (ic : PySem.W.isClsIn K C = true) (tc : PySem.W.typeIn K (.ref C) = some (.type "type")) (h : PySem.W.subIn K t (.ref C) = some true) : PySem.W.kitOne K t (.ref C) = some true := by
  unfold PySem.W.kitOne
  rw [kit_eq ic tc, h]
  split <;> rfl
theorem kit_ref0 {K : PySem.W.Frag} {t : Value} {C : Addr} (ic : PySem.W.isClsIn K C = true) (tc : PySem.W.typeIn K (.ref C) = some (.type "type")) (h : PySem.W.subIn K t (.ref C) = some false) (hn : (t == .ref C) = false) : PySem.W.kitOne K t (.ref C) = some false := by
  unfold PySem.W.kitOne
  rw [kit_eq ic tc, h, hn]
  rfl
theorem kit_type {K : PySem.W.Frag} {C : Addr} {T : String} {b : Bool} (km : PySem.W.kitMeta T = true) (h : PySem.W.subIn K (.ref C) (.type T) = some b) : PySem.W.kitOne K (.ref C) (.type T) = some b := by
  unfold PySem.W.kitOne
  have e : ((Value.ref C) == Value.type T) = false := rfl
  rw [e, if_neg Bool.false_ne_true]
  show (if PySem.W.kitMeta T = true then PySem.W.subIn K (.ref C) (.type T) else none) = some b
  rw [if_pos km, h]
theorem exm_mk {K : PySem.W.Frag} {S : Addr} (h1 : PySem.W.subIn K (.ref S) (.type "BaseException") = some true) (h2 : PySem.W.isClsIn K S = true) (h3 : PySem.W.typeIn K (.ref S) = some (.type "type")) (h4 : PySem.W.subIn K (.ref S) (.ref S) = some true) :
    PySem.W.exmOne K (.ref S) (.ref S) = some true := by
  have e1 : (PySem.W.subIn K (.ref S) (.type "BaseException") == some true) = true := by rw [h1] <;> rfl
  show (if (PySem.W.subIn K (.ref S) (.type "BaseException") == some true) = true then PySem.W.kitCls K (.ref S) (.ref S) else none) = some true
  rw [if_pos e1, kit_eq h2 h3, h4]
theorem ki_mk {K : PySem.W.Frag} {c : Addr} (ty : Cls K c) (ha : PySem.W.findIn K (.ref c) "__class__" = some (some (.builtin "object.__class__"))) (hm : PySem.W.mroIn K c (.type "object") = some true)
    (ic : PySem.W.isClsIn K c = true) (tc : PySem.W.typeIn K (.ref c) = some (.type "type")) (s1 : PySem.W.mroIn K c (.type "int") = some false) (s2 : PySem.W.mroIn K c (.type "bool") = some false) : KiT K c where
  ty := ty
  ha := ha
  hn := rfl
  htk := rfl
  hm := hm
  i := kit_type (by decide +kernel) s1
  b := kit_type (by decide +kernel) s2
  cc := by
    unfold PySem.W.kitOne
    have e : ((Value.ref c) == Value.ref c) = true := by simp
    rw [e, if_pos rfl]
  k1 := kit_ref0 ic tc rfl rfl
  k2 := kit_ref0 ic tc rfl rfl
  k3 := kit_ref0 ic tc rfl rfl
  k4 := kit_ref0 ic tc rfl rfl
  k5 := kit_ref0 ic tc rfl rfl
  k6 := kit_ref0 ic tc rfl rfl
  k7 := kit_ref0 ic tc rfl rfl
  n1 := rfl
  n2 := rfl
  n3 := rfl
  n4 := rfl
  n5 := rfl
  n6 := rfl
  n7 := rfl
  s1 := s1
  s2 := s2
theorem ref_ne {K : PySem.W.Frag} {a b : Addr} (h1 : PySem.W.mroIn K a (.ref a) = some true) (h2 : PySem.W.mroIn K a (.ref b) = some false) : (Value.ref a == Value.ref b) = false := by
  cases e : (Value.ref a == Value.ref b) with
  | false => rfl
  | true =>
    have : Value.ref a = Value.ref b := by simpa using e
    cases this
    rw [h1] at h2
    cases h2
theorem cx_no {P : Program} {w : World} {H : Hp} {s s' : Shared} {e : Value} (z : L2.CX P w [] H s (fun _ _ _ => False) e s') : False := by
  obtain ⟨_, _, _, _, _, _, _, _, _, _, _, _, h⟩ := z
  exact h
end L2.My

/-! W6: own + - * of instances and ints, both ways. -/
namespace L2.My
open PySem PySem.Spec PyProof.Rows PySem.SeqAt
open AutoSeq1 (wpAny_loadPart')
/-! ### own + - * of two instances, of one and an int, and of an int and one -/
theorem int_add_declines (b : Int) (u : Tok) (l C dx : Addr) :
    Meets (Builtin.«int.__add__» ⟨[.int b u, .ref l], []⟩) (fun _ R s => s.heap.get? l = some (PySem.W.instObj C dx) ∧ R (.ok (.ret .notImplemented)) s) :=
  .of_wp fun prog w A R s h => by obtain ⟨hp, g, d, tk, os⟩ := s; obtain ⟨hl, h⟩ := h; wp_walk using wpAny_loadPart' hl, wpAny_load hl; exact ⟨_, rfl, h⟩
theorem int_sub_declines (b : Int) (u : Tok) (l C dx : Addr) :
    Meets (Builtin.«int.__sub__» ⟨[.int b u, .ref l], []⟩) (fun _ R s => s.heap.get? l = some (PySem.W.instObj C dx) ∧ R (.ok (.ret .notImplemented)) s) :=
  .of_wp fun prog w A R s h => by obtain ⟨hp, g, d, tk, os⟩ := s; obtain ⟨hl, h⟩ := h; wp_walk using wpAny_loadPart' hl, wpAny_load hl; exact ⟨_, rfl, h⟩
theorem int_mul_declines (b : Int) (u : Tok) (l C dx : Addr) :
    Meets (Builtin.«int.__mul__» ⟨[.int b u, .ref l], []⟩) (fun _ R s => s.heap.get? l = some (PySem.W.instObj C dx) ∧ R (.ok (.ret .notImplemented)) s) :=
  .of_wp fun prog w A R s h => by obtain ⟨hp, g, d, tk, os⟩ := s; obtain ⟨hl, h⟩ := h; wp_walk using wpAny_loadPart' hl, wpAny_load hl; exact ⟨_, rfl, h⟩

/-- int op instance: the instance's own reflected def -/
theorem bin_refl {prog : Program} {w : World} {A : Around} {E : Value → Shared → Prop} {s : Shared} {K : PySem.W.Frag} {x C f g : Addr} {ox : Obj} {od : Option Obj} {op : Operator} {b : Int} {t : Tok} {id : String} {Q : Value → Shared → Prop}
    (X : K.In s.heap) (I : PySem.W.InstAt s.heap x ox C od) (sf : PySem.W.selfFirst K C = true) (hsub : PySem.W.subIn K (.ref C) (.type "int") = some false)
    (hg : PySem.W.findIn K (.ref C) (PySem.dunder op.info.2) = some (some (.ref g))) (hs : PySem.W.findIn K (.ref C) (PySem.dunderR op.info.2) = some (some (.ref f))) (hf : PySem.W.isFn K (.ref f) = true)
    (fi : fillsNumberSlot (.type "int") op.info.2 = pure true) (sl : Slot "int" (PySem.dunder op.info.2) id)
    (hd : ∀ Q' : Value → Shared → Prop, Q' .notImplemented s → wpAny (model prog w) A (call (.builtin id) [.int b t, .ref x]) Q' E s)
    (h : wpAny (model prog w) A (call (.ref f) [.ref x, .int b t]) (PySem.W.CmpBack Q) E s) : wpAny (model prog w) A (binaryOp op (.int b t) (.ref x)) Q E s := by
  obtain ⟨cd, rest, e1, e2⟩ := PySem.W.ksp_first sf
  have fC : PySem.W.Looks (model prog w) s.heap (fillsNumberSlot (.ref C) op.info.2) true := PySem.W.fills_K X e1 e2 hg
  have hne : (Value.type "int" == Value.ref C) = false := rfl
  have ti : s.TypeIs (.int b t) "int" := typeIs_int s b t
  have one : wpAny (model prog w) A (binaryOp1 op.info.2 (.int b t) (.ref x)) (fun r s' => ∃ v, r = some v ∧ Q v s') E s := by
    unfold binaryOp1
    refine wpAny_bind (wpAny_typeOf ti (wpAny_bind (I.type.here ?_)))
    rw [fi]
    refine wpAny_bind (wpAny_pure ?_)
    simp only [hne, Bool.false_eq_true, if_false]
    refine wpAny_bind (fC.here ?_)
    simp only [Bool.and_self, if_true]
    refine wpAny_bind ((PySem.W.looks_subIn X hsub).here ?_)
    simp only [Bool.false_eq_true, if_false, Bool.and_self, Bool.not_false, if_true]
    refine wpAny_bind ?_
    show wpAny _ _ (pure false) _ _ _
    refine wpAny_pure ?_
    simp only [Bool.false_eq_true, if_false]
    refine wpAny_bind (wpAny_tryMethod_declines ti sl (hd _ ⟨rfl, ?_⟩))
    refine wpAny_bind (wpAny_mono (PySem.W.ksp_try X I hs hf h) (fun r s' z => ?_) fun _ _ e => e)
    obtain ⟨v, rfl, hq⟩ := z
    exact wpAny_bind (wpAny_rule (wpAny_pure ⟨_, rfl, hq⟩))
  unfold binaryOp
  refine wpAny_holding ?_
  refine wpAny_bind (wpAny_mono one (fun r s' z => ?_) fun _ _ e => e)
  obtain ⟨v, rfl, hq⟩ := z
  exact wpAny_pure hq
section
variable {X : Cx} {C : Addr} {k k' j : Nat} {ps ps' : List Str} {sp spr : Sp} {E : XK} {m mr : Str}
/-- x op y, where one of both is an instance of C and the other one an instance of C or an int -/
def rOwnB (C : Addr) (sp spr : Sp) (E : XK) : R2 := fun x y H Q =>
  (∃ a dx fs, x = .ref a ∧ H a = some (.ins C dx fs) ∧ ((∃ i, y = .int i) ∨ ∃ a' dx' fs', y = .ref a' ∧ H a' = some (.ins C dx' fs')) ∧ sp [x, y] H Q E) ∨
  (∃ i a dx fs, x = .int i ∧ y = .ref a ∧ H a = some (.ins C dx fs) ∧ spr [y, x] H Q E)
/-- what an own operator needs of the class -/
structure OwnB (K : PySem.W.Frag) (C : Addr) : Prop where
  sf : PySem.W.selfFirst K C = true
  si : PySem.W.subIn K (.ref C) (.type "int") = some false
theorem op_ownB {op : Operator} {id : String} {fo ro : Option Value} (T : OwnB X.K C) (fi : fillsNumberSlot (.type "int") op.info.2 = pure true) (sl : Slot "int" (PySem.dunder op.info.2) id)
    (ef : PySem.W.findIn X.K (.type "int") (PySem.dunder op.info.2) = some fo) (er : PySem.W.findIn X.K (.type "int") (PySem.dunderR op.info.2) = some ro)
    (hd : ∀ {A : Around} {s : Shared} {E' : Value → Shared → Prop} (b : Int) (t : Tok) (l dx : Addr) (Q' : Value → Shared → Prop), s.heap.get? l = some (PySem.W.instObj C dx) → Q' .notImplemented s → wpAny (model X.prog X.w) A (call (.builtin id) [.int b t, .ref l]) Q' E' s)
    (h : HasM X.prog X.w X.K X.mg X.base C (PySem.dunder op.info.2) k ps sp) (h' : HasM X.prog X.w X.K X.mg X.base C (PySem.dunderR op.info.2) k' ps' spr) (hr : Room j X.A) (hx : Passes (L2.CX X.prog X.w) X E) (hj : k ≤ j := by decide) (hj' : k' ≤ j := by decide) :
    OpR X (binaryOp op) (rOwnB C sp spr E) := by
  obtain ⟨f, fd, Fo, hm, hb⟩ := h
  obtain ⟨f', fd', Fo', hm', hb'⟩ := h'
  intro pins s σ H x y v u Q I rx ry hh
  obtain ⟨m, hF⟩ := I.fr
  rcases hh with ⟨a, dx, fs, rfl, ha, hy, q⟩ | ⟨i, a, dx, fs, rfl, rfl, ha, q⟩
  · cases (show v = Value.ref a from rx)
    obtain ⟨mA, O, _⟩ := ins_get I.hok ha
    obtain ⟨od, J, _⟩ := O.look
    have cl : wpAny (model X.prog X.w) X.A (call (.ref f) [.ref a, u]) (PySem.W.CmpBack (EP X pins σ Q)) X.xe s := by
      refine wpAny_mono (run_fn Fo (hr.mono hj) hb .nil hx I (.cons rx (.cons ry .nil)) q) (fun w s' z => ?_) fun _ _ x => x
      obtain ⟨z', H', I', rz, qz⟩ := z
      exact SlX.cmpback rz ⟨z', H', I', rz, qz⟩
    rcases hy with ⟨i, rfl⟩ | ⟨a', dx', fs', rfl, ha'⟩
    · obtain ⟨t, rfl⟩ := (show ∃ t, u = Value.int i t from ry)
      exact PySem.W.ksp_binT hF I.ok.mod.kin J rfl T.sf hm.at_ hm.fn hm'.at_ (.inr ⟨_, rfl⟩) ef er rfl cl
    · cases (show u = Value.ref a' from ry)
      obtain ⟨mA', O', _⟩ := ins_get I.hok ha'
      obtain ⟨od', J', _⟩ := O'.look
      exact PySem.W.binop_K hF I.ok.mod.kin J J'.type T.sf hm.at_ hm.fn cl
  · obtain ⟨t, rfl⟩ := (show ∃ t, v = Value.int i t from rx)
    cases (show u = Value.ref a from ry)
    obtain ⟨mA, O, _⟩ := ins_get I.hok ha
    obtain ⟨od, J, _⟩ := O.look
    refine bin_refl I.kIn J T.sf T.si hm.at_ hm'.at_ hm'.fn fi sl (fun Q' hq => hd i t a dx Q' O.obj hq) ?_
    refine wpAny_mono (run_fn Fo' (hr.mono hj') hb' .nil hx I (.cons ry (.cons rx .nil)) q) (fun w s' z => ?_) fun _ _ x => x
    obtain ⟨z', H', I', rz, qz⟩ := z
    exact SlX.cmpback rz ⟨z', H', I', rz, qz⟩
theorem op_addB (T : OwnB X.K C) (h : HasM X.prog X.w X.K X.mg X.base C "__add__" k ps sp) (h' : HasM X.prog X.w X.K X.mg X.base C "__radd__" k' ps' spr) (hr : Room j X.A) (hx : Passes (L2.CX X.prog X.w) X E) (hj : k ≤ j := by decide) (hj' : k' ≤ j := by decide) :
    OpR X (binaryOp .Add) (rOwnB C sp spr E) :=
  op_ownB (op := .Add) T F.fills_int_add F.slot_int_add rfl rfl (fun b t l dx Q' hl hq => call_meets F.slot_int_add (typeIs_int _ b t) F.entry_int_add (F.args_int_add_2 _ _) (int_add_declines b t l C dx) ⟨hl, hq⟩) h h' hr hx hj hj'
theorem op_subB (T : OwnB X.K C) (h : HasM X.prog X.w X.K X.mg X.base C "__sub__" k ps sp) (h' : HasM X.prog X.w X.K X.mg X.base C "__rsub__" k' ps' spr) (hr : Room j X.A) (hx : Passes (L2.CX X.prog X.w) X E) (hj : k ≤ j := by decide) (hj' : k' ≤ j := by decide) :
    OpR X (binaryOp .Sub) (rOwnB C sp spr E) :=
  op_ownB (op := .Sub) T F.fills_int_sub F.slot_int_sub rfl rfl (fun b t l dx Q' hl hq => call_meets F.slot_int_sub (typeIs_int _ b t) F.entry_int_sub (by first | exact F.args_int_sub_2 _ _ | (unfold argsOk; kernel_rfl)) (int_sub_declines b t l C dx) ⟨hl, hq⟩) h h' hr hx hj hj'
theorem op_mulB (T : OwnB X.K C) (h : HasM X.prog X.w X.K X.mg X.base C "__mul__" k ps sp) (h' : HasM X.prog X.w X.K X.mg X.base C "__rmul__" k' ps' spr) (hr : Room j X.A) (hx : Passes (L2.CX X.prog X.w) X E) (hj : k ≤ j := by decide) (hj' : k' ≤ j := by decide) :
    OpR X (binaryOp .Mult) (rOwnB C sp spr E) :=
  op_ownB (op := .Mult) T F.fills_int_mul F.slot_int_mul rfl rfl (fun b t l dx Q' hl hq => call_meets F.slot_int_mul (typeIs_int _ b t) F.entry_int_mul (F.args_int_mul_2 _ _) (int_mul_declines b t l C dx) ⟨hl, hq⟩) h h' hr hx hj hj'
/-- x op y, where x is an instance of C and y is one or an int -/
def rOwnL (C : Addr) (sp : Sp) (E : XK) : R2 := fun x y H Q =>
  ∃ a dx fs, x = .ref a ∧ H a = some (.ins C dx fs) ∧ ((∃ i, y = .int i) ∨ ∃ a' dx' fs', y = .ref a' ∧ H a' = some (.ins C dx' fs')) ∧ sp [x, y] H Q E
theorem op_ownL {op : Operator} {fo ro : Option Value} (T : OwnB X.K C) (hrc : ∃ g, PySem.W.findIn X.K (.ref C) (PySem.dunderR op.info.2) = some (some (.ref g)))
    (ef : PySem.W.findIn X.K (.type "int") (PySem.dunder op.info.2) = some fo) (er : PySem.W.findIn X.K (.type "int") (PySem.dunderR op.info.2) = some ro)
    (h : HasM X.prog X.w X.K X.mg X.base C (PySem.dunder op.info.2) k ps sp) (hr : Room j X.A) (hx : Passes (L2.CX X.prog X.w) X E) (hj : k ≤ j := by decide) :
    OpR X (binaryOp op) (rOwnL C sp E) := by
  obtain ⟨f, fd, Fo, hm, hb⟩ := h
  obtain ⟨g, hg⟩ := hrc
  intro pins s σ H x y v u Q I rx ry hh
  obtain ⟨m, hF⟩ := I.fr
  obtain ⟨a, dx, fs, rfl, ha, hy, q⟩ := hh
  cases (show v = Value.ref a from rx)
  obtain ⟨mA, O, _⟩ := ins_get I.hok ha
  obtain ⟨od, J, _⟩ := O.look
  have cl : wpAny (model X.prog X.w) X.A (call (.ref f) [.ref a, u]) (PySem.W.CmpBack (EP X pins σ Q)) X.xe s := by
    refine wpAny_mono (run_fn Fo (hr.mono hj) hb .nil hx I (.cons rx (.cons ry .nil)) q) (fun w s' z => ?_) fun _ _ x => x
    obtain ⟨z', H', I', rz, qz⟩ := z
    exact SlX.cmpback rz ⟨z', H', I', rz, qz⟩
  rcases hy with ⟨i, rfl⟩ | ⟨a', dx', fs', rfl, ha'⟩
  · obtain ⟨t, rfl⟩ := (show ∃ t, u = Value.int i t from ry)
    exact PySem.W.ksp_binT hF I.ok.mod.kin J rfl T.sf hm.at_ hm.fn hg (.inr ⟨_, rfl⟩) ef er rfl cl
  · cases (show u = Value.ref a' from ry)
    obtain ⟨mA', O', _⟩ := ins_get I.hok ha'
    obtain ⟨od', J', _⟩ := O'.look
    exact PySem.W.binop_K hF I.ok.mod.kin J J'.type T.sf hm.at_ hm.fn cl
theorem op_addL (T : OwnB X.K C) (hrc : ∃ g, PySem.W.findIn X.K (.ref C) "__radd__" = some (some (.ref g))) (h : HasM X.prog X.w X.K X.mg X.base C "__add__" k ps sp) (hr : Room j X.A) (hx : Passes (L2.CX X.prog X.w) X E) (hj : k ≤ j := by decide) :
    OpR X (binaryOp .Add) (rOwnL C sp E) := op_ownL (op := .Add) T hrc rfl rfl h hr hx hj
theorem op_subL (T : OwnB X.K C) (hrc : ∃ g, PySem.W.findIn X.K (.ref C) "__rsub__" = some (some (.ref g))) (h : HasM X.prog X.w X.K X.mg X.base C "__sub__" k ps sp) (hr : Room j X.A) (hx : Passes (L2.CX X.prog X.w) X E) (hj : k ≤ j := by decide) :
    OpR X (binaryOp .Sub) (rOwnL C sp E) := op_ownL (op := .Sub) T hrc rfl rfl h hr hx hj
theorem op_mulL (T : OwnB X.K C) (hrc : ∃ g, PySem.W.findIn X.K (.ref C) "__rmul__" = some (some (.ref g))) (h : HasM X.prog X.w X.K X.mg X.base C "__mul__" k ps sp) (hr : Room j X.A) (hx : Passes (L2.CX X.prog X.w) X E) (hj : k ≤ j := by decide) :
    OpR X (binaryOp .Mult) (rOwnL C sp E) := op_ownL (op := .Mult) T hrc rfl rfl h hr hx hj
end
theorem w_ifx {t : TT} {ta tb : TE} {σ : L2.St} {H : Hp} {Q : VK} (q : t σ H fun c H1 => if c = true then ta σ H1 Q else tb σ H1 Q) : tIf t ta tb σ H Q := q
theorem w_truB {K : PySem.W.Frag} {b : Bool} {H : Hp} {Q : Bool → Hp → Prop} (q : Q b H) : ∃ k, TruV K (.bl b) H k ∧ Q k H := ⟨b, rfl, q⟩
theorem w_truI {K : PySem.W.Frag} {i : Int} {H : Hp} {Q : Bool → Hp → Prop} (q : Q (i != 0) H) : ∃ k, TruV K (.int i) H k ∧ Q k H := ⟨_, rfl, q⟩
/-! ### numbers that are not too great -/
def Bw (n : Nat) (x : Int) : Prop := x.natAbs < 2 ^ n
theorem Bw.mul {m n : Nat} {x y : Int} (hx : Bw m x) (hy : Bw n y) : Bw (m + n) (x * y) := by
  unfold Bw at *
  rw [Int.natAbs_mul, Nat.pow_add]
  exact Nat.mul_lt_mul'' hx hy
theorem Bw.mono {m n : Nat} {x : Int} (hx : Bw m x) (h : m ≤ n) : Bw n x := Nat.lt_of_lt_of_le hx (Nat.pow_le_pow_right (by decide) h)
theorem Bw.add {m n : Nat} {x y : Int} (hx : Bw m x) (hy : Bw n y) : Bw (max m n + 1) (x + y) := by
  have h1 := hx.mono (Nat.le_max_left m n)
  have h2 := hy.mono (Nat.le_max_right m n)
  unfold Bw at *
  rw [Nat.pow_succ]
  have := Int.natAbs_add_le x y
  omega
theorem Bw.neg {m : Nat} {x : Int} (hx : Bw m x) : Bw m (-x) := by unfold Bw at *; rw [Int.natAbs_neg]; exact hx
theorem Bw.sub {m n : Nat} {x y : Int} (hx : Bw m x) (hy : Bw n y) : Bw (max m n + 1) (x - y) := by rw [Int.sub_eq_add_neg]; exact hx.add hy.neg
theorem Bw.two : Bw 2 2 := by unfold Bw; decide
theorem Bw.zero : Bw 1 0 := by unfold Bw; decide
theorem Bw.one : Bw 1 1 := by unfold Bw; decide
theorem Bw.bd {n : Nat} {x : Int} (h : Bw n x) (hn : Nat.ble n 8000 = true) : Bd x := Nat.lt_of_lt_of_le h (Nat.pow_le_pow_right (by decide) (Nat.le_of_ble_eq_true hn))
theorem bwm {m n : Nat} {x y : Int} (hx : Bw m x) (hy : Bw n y) (h : (Nat.ble m 8000 && Nat.ble n 8000) = true) : CMulS x y := by
  simp only [Bool.and_eq_true] at h
  have hx := hx.bd h.1
  have hy := hy.bd h.2
  exact .inr (.inr (wide_mul hx hy (by decide) (by decide) (by decide)))
theorem bw_of {x : Int} {n k : Nat} (h : x.natAbs ≤ n) (hn : Nat.blt n (2 ^ k) = true) : Bw k x := Nat.lt_of_le_of_lt h (by simpa using hn)
end L2.My

/-! W7: math.isqrt of great numbers. -/
namespace L2.My
open PySem PySem.Spec PyProof.Rows
section
variable {X : Cx}
/-- the whole of the square root -/
def sqr (a : Int) : Int := ((Float64.isqrt a.toNat : Nat) : Int)
theorem sqr_spec {a : Int} (h : 0 ≤ a) : 0 ≤ sqr a ∧ sqr a * sqr a ≤ a ∧ a < (sqr a + 1) * (sqr a + 1) := by
  obtain ⟨h1, h2⟩ := Float64.isqrt_spec a.toNat
  have e : ((a.toNat : Nat) : Int) = a := by omega
  unfold sqr
  refine ⟨by omega, ?_, ?_⟩
  · have := Int.ofNat_le.mpr h1
    rw [Int.natCast_mul, e] at this
    exact this
  · have := Int.ofNat_lt.mpr h2
    rw [Int.natCast_mul, e] at this
    exact this
def rSq : List V → Hp → VK → Prop := fun vs H Q => ∃ a : Int, vs = [.int a] ∧ 0 ≤ a ∧ Bw 8000 a ∧ Q (.int (sqr a)) H
theorem cr_isqrt : CallR X (.builtin "math.isqrt") rSq := by
  intro pins s σ H vs us Q I r h
  obtain ⟨a, rfl, h0, hb, q⟩ := h
  cases r with
  | cons ra r =>
    cases r
    obtain ⟨t, rfl⟩ := ra
    have hl : a.toNat.log2 < 8000 := PySem.Flt.log2_lt_of (by decide) (by unfold Bw at hb; omega)
    have g := PySem.W.mg_run_isqrt a t (by omega) (by omega) (by omega)
    exact call_function_meets PySem.W.MGF.kind_isqrt PySem.W.MGF.plain_isqrt PySem.W.MGF.entry_isqrt (PySem.W.MGF.args_isqrt _) g.meets ⟨.int _, H, I.tok _, ⟨_, rfl⟩, q⟩
end
end L2.My

/-! W8: for a, b in zip(l, m). -/
namespace L2.My
open PySem PySem.Spec PyProof.Rows
section
variable {K : PySem.W.Frag} {σ : St} {H : Hp} {g : TG} {tb : TS} {D : Ends} {a b : Addr} {xs ys : List V} {ta : TA}
theorem for_zip (Pv : Nat → St → Hp → Prop) (h0 : Pv 0 σ H) (hl : ∀ i σ H, i ≤ xs.length → Pv i σ H → SqL K H a xs ∧ SqL K H b ys) (e : xs.length = ys.length)
    (hs : ∀ i x y σ H T H', xs[i]? = some x → ys[i]? = some y → Pv i σ H → H T = none → Same H H' → H' T = some (.tup [x, y]) → g (.ref T) σ H' fun σ2 H2 => tb ⟨Pv (i + 1), D.rt, D.nx, Pv (i + 1)⟩ σ2 H2) (hd : ∀ σ H, Pv xs.length σ H → D.nx σ H) :
    ∃ W : Nat → Nat → St → Hp → Prop, (∃ m, W 0 m σ H) ∧ ∀ i m σ H, W i m σ H → (Itz K a b).stop i H ∧ D.nx σ H ∨ (Itz K a b).go i H ∧ ∃ N, (∀ σ' H', N σ' H' → ∃ m', m' < m ∧ W (i + 1) m' σ' H') ∧
      ∀ x H', (Itz K a b).yld i H x H' → g x σ H' fun σ2 H2 => tb ⟨N, D.rt, D.nx, N⟩ σ2 H2 := by
  refine ⟨fun i m σ H => Pv i σ H ∧ m + i = xs.length, ⟨xs.length, h0, rfl⟩, fun i m σ H ⟨q, em⟩ => ?_⟩
  obtain ⟨l1, l2⟩ := hl i σ H (by omega) q
  rcases Nat.lt_or_ge i xs.length with h | h
  · right
    have ex : xs[i]? = some xs[i] := List.getElem?_eq_getElem h
    have ey : ys[i]? = some (ys[i]'(by omega)) := List.getElem?_eq_getElem (by omega)
    refine ⟨⟨xs, ys, _, _, l1, l2, ex, ey⟩, Pv (i + 1), fun σ' H' q' => ⟨m - 1, by omega, q', by omega⟩, ?_⟩
    rintro x H' ⟨T, x', y', rfl, hT, rfl, h1, h2⟩
    exact hs i x' y' σ H T _ (h1 xs l1) (h2 ys l2) q hT (Same.new hT) upd_same
  · left
    have : i = xs.length := by omega
    subst this
    exact ⟨⟨xs, ys, l1, l2, .inl (Nat.le_refl _)⟩, hd σ H q⟩
def ForZ (K : PySem.W.Frag) (g : TG) (tb : TS) (D : Ends) (σ : St) (vs : List V) (H : Hp) : Prop := tFor (iZip K fun _ H Q => Q vs H) g tb D σ H
theorem w_forZ (q : ta σ H fun vs H1 => ForZ K g tb D σ vs H1) : tFor (iZip K ta) g tb D σ H := q
theorem k_forZ {nx bk ct : L2.St → Hp → Prop} {rt : VK} (Pv : Nat → St → Hp → Prop) (hx : SqL K H a xs) (hy : SqL K H b ys) (e : xs.length = ys.length) (h0 : Pv 0 σ H) (hl : ∀ i σ H, Pv i σ H → SqL K H a xs ∧ SqL K H b ys)
    (hs : ∀ i x y σ H T H', xs[i]? = some x → ys[i]? = some y → Pv i σ H → H T = none → Same H H' → H' T = some (.tup [x, y]) → g (.ref T) σ H' fun σ2 H2 => tb ⟨Pv (i + 1), rt, nx, Pv (i + 1)⟩ σ2 H2) (hd : ∀ σ H, Pv xs.length σ H → nx σ H) :
    ForZ K g tb ⟨nx, rt, bk, ct⟩ σ [.ref a, .ref b] H :=
  ⟨a, b, xs, ys, rfl, hx, hy, for_zip (D := ⟨nx, rt, bk, ct⟩) Pv h0 (fun i σ H _ q => hl i σ H q) e hs hd⟩
theorem ix_seqZ {X : Cx} {K : PySem.W.Frag} (h : X.K = K) : IxR X (rIx K) := h ▸ ix_seq
end
end L2.My

/-! W9: plain things, tuples of ints, data of any depth, all(), slices and sums of tuples. -/
namespace L2.My
open PySem PySem.Spec PyProof.Rows
/-- a thing that is no instance -/
inductive Plain (H : Hp) : V → Prop
  | non : Plain H .non
  | bl (b : Bool) : Plain H (.bl b)
  | int (i : Int) : Plain H (.int i)
  | str (s : Str) : Plain H (.str s)
  | lst (a : Addr) (xs : List V) (e : H a = some (.lst xs)) : Plain H (.ref a)
  | tup (a : Addr) (xs : List V) (e : H a = some (.tup xs)) : Plain H (.ref a)
  | dK (a : Addr) (kvs : List (L2.Key × V)) (e : H a = some (.dK kvs)) : Plain H (.ref a)
theorem Plain.same {H H' : Hp} {v : V} (h : Plain H v) (s : Same H H') : Plain H' v := by
  cases h with
  | non => exact .non
  | bl b => exact .bl b
  | int i => exact .int i
  | str s => exact .str s
  | lst a xs e => exact .lst a xs (s _ _ e)
  | tup a xs e => exact .tup a xs (s _ _ e)
  | dK a xs e => exact .dK a xs (s _ _ e)
theorem Plain.th {c : Addr} {H : Hp} {v : V} (h : Plain H v) : Th c H v := by
  cases h with
  | non => exact .non
  | bl b => exact .bl b
  | int i => exact .int i
  | str s => exact .str s
  | lst a xs e => exact .lst a xs e
  | tup a xs e => exact .tup a xs e
  | dK a xs e => exact .dK a xs e
def isTu (H : Hp) : V → Bool
  | .ref a => match H a with
    | some (.tup _) => true
    | _ => false
  | _ => false
theorem isTu_tup {H : Hp} {a : Addr} {xs : List V} (e : H a = some (.tup xs)) : isTu H (.ref a) = true := by
  show (match H a with | some (.tup _) => true | _ => false) = true
  rw [e]
theorem isTu_lst {H : Hp} {a : Addr} {xs : List V} (e : H a = some (.lst xs)) : isTu H (.ref a) = false := by
  show (match H a with | some (.tup _) => true | _ => false) = false
  rw [e]
theorem isTu_dK {H : Hp} {a : Addr} {xs : List (L2.Key × V)} (e : H a = some (.dK xs)) : isTu H (.ref a) = false := by
  show (match H a with | some (.tup _) => true | _ => false) = false
  rw [e]
theorem Plain.ty {K : PySem.W.Frag} {H : Hp} {v : V} (h : Plain H v) : ∃ t, TyX K H v t ∧ PySem.W.kitOne K t (.type "int") = some (isI v || isB v) ∧ PySem.W.kitOne K t (.type "bool") = some (isB v) ∧ PySem.W.kitOne K t (.type "tuple") = some (isTu H v) := by
  have kb : ∀ (a b : String) (r : Bool), kitB a b = some r → PySem.W.kitOne K (.type a) (.type b) = some r := fun _ _ _ h => kit_ty h
  cases h with
  | non => exact ⟨_, .base .non, kb "NoneType" "int" false (by decide +kernel), kb "NoneType" "bool" false (by decide +kernel), kb "NoneType" "tuple" false (by decide +kernel)⟩
  | bl b => exact ⟨_, .base (.bl b), kb "bool" "int" true (by decide +kernel), kb "bool" "bool" true (by decide +kernel), kb "bool" "tuple" false (by decide +kernel)⟩
  | int i => exact ⟨_, .base (.int i), kb "int" "int" true (by decide +kernel), kb "int" "bool" false (by decide +kernel), kb "int" "tuple" false (by decide +kernel)⟩
  | str s => exact ⟨_, .base (.str s), kb "str" "int" false (by decide +kernel), kb "str" "bool" false (by decide +kernel), kb "str" "tuple" false (by decide +kernel)⟩
  | lst a xs e => exact ⟨_, .base (.lst e), kb "list" "int" false (by decide +kernel), kb "list" "bool" false (by decide +kernel), by rw [isTu_lst e]; exact kb "list" "tuple" false (by decide +kernel)⟩
  | tup a xs e => exact ⟨_, .base (.tup e), kb "tuple" "int" false (by decide +kernel), kb "tuple" "bool" false (by decide +kernel), by rw [isTu_tup e]; exact kb "tuple" "tuple" true (by decide +kernel)⟩
  | dK a xs e => exact ⟨_, .base (.dK e), kb "dict" "int" false (by decide +kernel), kb "dict" "bool" false (by decide +kernel), by rw [isTu_dK e]; exact kb "dict" "tuple" false (by decide +kernel)⟩
section
variable {K : PySem.W.Frag} {σ : L2.St} {H : Hp} {Q : VK} {a b : Addr} {xs ys : List V} {te : TE} {ws : List Nat} {g : TG} {tt : TT} {v : V}
/-- a raised class that a clause's class is no base of -/
theorem exm_no {K : PySem.W.Frag} {S D : Addr} (h1 : PySem.W.mroIn K D (.type "BaseException") = some true) (h2 : PySem.W.isClsIn K D = true) (h3 : PySem.W.typeIn K (.ref D) = some (.type "type")) (h4 : PySem.W.mroIn K S (.ref D) = some false) :
    PySem.W.exmOne K (.ref S) (.ref D) = some false := by
  have e1 : (PySem.W.subIn K (.ref D) (.type "BaseException") == some true) = true := by
    have : PySem.W.subIn K (.ref D) (.type "BaseException") = some true := h1
    rw [this] <;> rfl
  show (if (PySem.W.subIn K (.ref D) (.type "BaseException") == some true) = true then PySem.W.kitCls K (.ref S) (.ref D) else none) = some false
  rw [if_pos e1, kit_eq h2 h3]
  exact h4
theorem w_all {bs : List Bool} (h : SqL K H a (bs.map V.bl)) (q : Q (.bl (bs.all id)) H) : rAll K [.ref a] H Q := ⟨a, bs, rfl, h, q⟩
/-- a slice of a tuple that is not the whole -/
theorem k_slT {lo hi : Option Int} (h : H a = some (.tup xs)) (n : ¬ (HT.sIx xs.length 0 lo = 0 ∧ HT.sIx xs.length xs.length hi = xs.length)) (q : ∀ p H2, H p = none → Same H H2 → H2 p = some (.tup (cutV xs lo hi)) → Q (.ref p) H2) : SlP (rSlA K) (.ref a) lo hi H Q :=
  ⟨a, xs, rfl, SqT.of h, fun z => absurd z n, fun _ p hp => q p _ hp (Same.new hp) upd_same⟩
/-- t + u, both not empty -/
theorem w_catT (h1 : H a = some (.tup xs)) (h2 : H b = some (.tup ys)) (n1 : xs ≠ []) (n2 : ys ≠ []) (hl : Nat.ble (xs.length + ys.length) 1000 = true) (q : ∀ p H2, H p = none → Same H H2 → H2 p = some (.tup (xs ++ ys)) → Q (.ref p) H2) : rCatA K (.ref a) (.ref b) H Q :=
  ⟨a, b, xs, ys, rfl, rfl, SqT.of h1, SqT.of h2, sz1000 (Nat.le_of_ble_eq_true hl), fun z => absurd z n1, fun _ z => absurd z n2, fun _ _ p hp => q p _ hp (Same.new hp) upd_same⟩
/-- t + u, any -/
theorem w_catA (h1 : H a = some (.tup xs)) (h2 : H b = some (.tup ys)) (hl : Nat.ble (xs.length + ys.length) 1000 = true) (q : ∀ p H2, Same H H2 → H2 p = some (.tup (xs ++ ys)) → Q (.ref p) H2) : rCatA K (.ref a) (.ref b) H Q :=
  ⟨a, b, xs, ys, rfl, rfl, SqT.of h1, SqT.of h2, sz1000 (Nat.le_of_ble_eq_true hl), fun z => q b H (Same.refl _) (by rw [h2, z, List.nil_append]), fun _ z => q a H (Same.refl _) (by rw [h1, z, List.append_nil]), fun _ _ p hp => q p _ (Same.new hp) upd_same⟩
theorem k_slA {lo hi : Option Int} (h : H a = some (.tup xs)) (q : ∀ p H2, Same H H2 → H2 p = some (.tup (cutV xs lo hi)) → Q (.ref p) H2) : SlP (rSlA K) (.ref a) lo hi H Q :=
  ⟨a, xs, rfl, SqT.of h, fun z => q a H (Same.refl _) (by
    have : cutV xs lo hi = xs := by
      unfold cutV
      rw [z.1, z.2, List.drop_zero, Nat.sub_zero, List.take_length]
    rw [h, this]), fun _ p hp => q p _ (Same.new hp) upd_same⟩
/-- [..] * k -/
theorem w_rep {k : Int} (h : H a = some (.lst xs)) (k0 : -(2 ^ 63) ≤ k) (k1 : k < 2 ^ 63) (hl : Nat.ble (xs.length * k.toNat) 1000 = true) (q : ∀ p H2, H p = none → Same H H2 → H2 p = some (.lst (List.replicate k.toNat xs).flatten) → Q (.ref p) H2) : rRep (.ref a) (.int k) H Q :=
  ⟨a, k, xs, rfl, rfl, h, k0, k1, sz1000 (Nat.le_of_ble_eq_true hl), fun p hp => q p _ hp (Same.new hp) upd_same⟩
/-- tuple(list) -/
def rTupOf (K : PySem.W.Frag) : List V → Hp → VK → Prop := fun xs H Q => ∃ p ys, xs = [.ref p] ∧ ((SqL K H p ys ∧ ∀ l, H l = none → Q (.ref l) (upd H l (.tup ys))) ∨ (SqT K H p ys ∧ Q (.ref p) H))
theorem cn_tuple {X : Cx} : CallR X (.type "tuple") (rTupOf X.K) := call_tuple_of
theorem w_tupL (h : H a = some (.lst xs)) (q : ∀ p H2, H p = none → Same H H2 → H2 p = some (.tup xs) → Q (.ref p) H2) : rTupOf K [.ref a] H Q := ⟨a, xs, rfl, .inl ⟨SqL.of h, fun l hl => q l _ hl (Same.new hl) upd_same⟩⟩
/-- xs.append(y) -/
theorem w_append {l : Addr} {y : V} (h : H l = some (.lst xs)) (hl : xs.length < 1000) (q : ∀ H2, SameX l H H2 → H2 l = some (.lst (xs ++ [y])) → Q .non H2) : rAppend (.ref l) [y] H Q :=
  ⟨l, xs, y, rfl, rfl, h, Nat.lt_of_lt_of_le hl (by decide), q _ (SameX.upd fun _ _ _ e => e) upd_same⟩
/-- a, b, c, d = t -/
theorem k_tup4 {T : Addr} {x y z u : V} {σ' : L2.St} {i j k l : Nat} {N : L2.St → Hp → Prop} {n : Nat} (hT : H T = some (.tup [x, y, z, u])) (hn : n = 4) (hσ : (((σ.set i (some x)).set j (some y)).set k (some z)).set l (some u) = σ') (q : N σ' H) :
    gTup K n (gCons (gName i) (gCons (gName j) (gCons (gName k) (gCons (gName l) gNil)))) (.ref T) σ H N := by
  subst hσ
  exact ⟨T, [x, y, z, u], rfl, SqT.of hT, by rw [hn]; rfl, x, [y, z, u], rfl, y, [z, u], rfl, z, [u], rfl, u, [], rfl, rfl, q⟩
theorem k_tupl2 {T : Addr} {x y : V} {σ' : L2.St} {i j : Nat} {N : L2.St → Hp → Prop} {n : Nat} (hT : H T = some (.tup [x, y])) (hn : n = 2) (hσ : (σ.set i (some x)).set j (some y) = σ') (q : N σ' H) : gTup K n (gCons (gName i) (gCons (gName j) gNil)) (.ref T) σ H N := by
  subst hσ
  exact ⟨T, [x, y], rfl, SqT.of hT, by rw [hn]; rfl, x, [y], rfl, y, [], rfl, rfl, q⟩
/-- a comprehension over a tuple whose turns tell flags and change nothing -/
theorem k_lcFlags {f : V → Bool} {slot : Nat} (h : H a = some (.tup xs)) (hl : xs.length ≤ 500) (hw : ∀ x, wipe ((wipe σ ws).set slot (some x)) ws = wipe σ ws)
    (turn : ∀ x H', x ∈ xs → Same H H' → ∀ N : VK, N (.bl (f x)) H' → te ((wipe σ ws).set slot (some x)) H' N)
    (hd : ∀ D H', H D = none → Same H H' → H' D = some (.lst ((xs.map f).map V.bl)) → Q (.ref D) H') : CompT K (gName slot) tYes te ws σ (.ref a) H Q := by
  refine ⟨a, rfl, ⟨_, SqT.of h⟩, fun D hD => lc_tup (xs := xs) (fun i H' => Same H H' ∧ H' D = some (.lst (((xs.take i).map f).map V.bl))) ⟨Same.new hD, upd_same⟩ (fun i H' _ e => SqT.of (e.1 _ _ h)) (fun i x H' hx e => ?_) (fun H' e => ?_)⟩
  · have hi : i < xs.length := (List.getElem?_eq_some_iff.mp hx).1
    obtain rfl : xs[i] = x := by rw [List.getElem?_eq_getElem hi] at hx; exact Option.some.inj hx
    refine ⟨hw _, ?_⟩
    refine w_yes (w_T rfl ?_)
    refine turn _ H' (List.getElem_mem hi) e.1 _ ?_
    refine ⟨_, e.2, by rw [List.length_map, List.length_map, List.length_take]; exact sz_lt (by omega), fun b o eb => ?_, ?_⟩
    · rw [upd_ne (ne_of_none eb hD)]
      exact e.1 b o eb
    · have e2 : xs.take (i + 1) = xs.take i ++ [xs[i]] := by rw [List.take_add_one, List.getElem?_eq_getElem hi]; rfl
      rw [upd_same, e2, List.map_append, List.map_append]
      rfl
  · have e2 := e.2
    rw [List.take_length] at e2
    exact hd D H' hD e.1 e2
theorem w_lcTT {tl : TE} (q : tl σ H fun x H1 => CompT K g tt te ws σ x H1 Q) : tLc (iTup K tl) g tt te ws σ H Q := q
/-- a thing of data, not deep -/
structure Data (K : PySem.W.Frag) (H : Hp) (v : V) (d : PyData) : Prop where
  dp : Dp K H v d
  lay : d.canLay0 = true
  dep : d.depth ≤ 10
theorem sqL_same {H H' : Hp} {a : Addr} {xs : List V} (h : H a = some (.lst xs)) (s : Same H H') : SqL K H' a xs := SqL.of (s _ _ h)
theorem eq_same {d : PyData} (h : d.canLay0 = true) : PyData.eqv d d = true := SeqAt.eqv_refl d h
end
/-! ### zip of two tuples -/
section
variable {K : PySem.W.Frag} {σ : St} {H : Hp} {g : TG} {tb : TS} {D : Ends} {a b : Addr} {xs ys : List V} {ta : TA}
def ForZT (K : PySem.W.Frag) (g : TG) (tb : TS) (D : Ends) (σ : St) (vs : List V) (H : Hp) : Prop := tFor (RZ.iZipA K fun _ H Q => Q vs H) g tb D σ H
theorem w_forZT (q : ta σ H fun vs H1 => ForZT K g tb D σ vs H1) : tFor (RZ.iZipA K ta) g tb D σ H := q
theorem for_zipT (Pv : Nat → St → Hp → Prop) (h0 : Pv 0 σ H) (hl : ∀ i σ H, i ≤ xs.length → Pv i σ H → SqT K H a xs ∧ SqT K H b ys) (e : xs.length = ys.length)
    (hs : ∀ i x y σ H T H', xs[i]? = some x → ys[i]? = some y → Pv i σ H → H T = none → Same H H' → H' T = some (.tup [x, y]) → g (.ref T) σ H' fun σ2 H2 => tb ⟨Pv (i + 1), D.rt, D.nx, Pv (i + 1)⟩ σ2 H2) (hd : ∀ σ H, Pv xs.length σ H → D.nx σ H) :
    ∃ W : Nat → Nat → St → Hp → Prop, (∃ m, W 0 m σ H) ∧ ∀ i m σ H, W i m σ H → (RZ.ItzT K a b).stop i H ∧ D.nx σ H ∨ (RZ.ItzT K a b).go i H ∧ ∃ N, (∀ σ' H', N σ' H' → ∃ m', m' < m ∧ W (i + 1) m' σ' H') ∧
      ∀ x H', (RZ.ItzT K a b).yld i H x H' → g x σ H' fun σ2 H2 => tb ⟨N, D.rt, D.nx, N⟩ σ2 H2 := by
  refine ⟨fun i m σ H => Pv i σ H ∧ m + i = xs.length, ⟨xs.length, h0, rfl⟩, fun i m σ H ⟨q, em⟩ => ?_⟩
  obtain ⟨l1, l2⟩ := hl i σ H (by omega) q
  rcases Nat.lt_or_ge i xs.length with h | h
  · right
    have ex : xs[i]? = some xs[i] := List.getElem?_eq_getElem h
    have ey : ys[i]? = some (ys[i]'(by omega)) := List.getElem?_eq_getElem (by omega)
    refine ⟨⟨xs, ys, _, _, l1, l2, ex, ey⟩, Pv (i + 1), fun σ' H' q' => ⟨m - 1, by omega, q', by omega⟩, ?_⟩
    rintro x H' ⟨T, x', y', rfl, hT, rfl, h1, h2⟩
    exact hs i x' y' σ H T _ (h1 xs l1) (h2 ys l2) q hT (Same.new hT) upd_same
  · left
    have : i = xs.length := by omega
    subst this
    exact ⟨⟨xs, ys, l1, l2, .inl (Nat.le_refl _)⟩, hd σ H q⟩
theorem k_forZT {nx bk ct : L2.St → Hp → Prop} {rt : VK} (Pv : Nat → St → Hp → Prop) (hx : H a = some (.tup xs)) (hy : H b = some (.tup ys)) (e : xs.length = ys.length) (h0 : Pv 0 σ H) (hl : ∀ i σ H, Pv i σ H → SqT K H a xs ∧ SqT K H b ys)
    (hs : ∀ i x y σ H T H', xs[i]? = some x → ys[i]? = some y → Pv i σ H → H T = none → Same H H' → H' T = some (.tup [x, y]) → g (.ref T) σ H' fun σ2 H2 => tb ⟨Pv (i + 1), rt, nx, Pv (i + 1)⟩ σ2 H2) (hd : ∀ σ H, Pv xs.length σ H → nx σ H) :
    ForZT K g tb ⟨nx, rt, bk, ct⟩ σ [.ref a, .ref b] H :=
  ⟨a, b, xs, ys, rfl, .inr ⟨SqT.of hx, SqT.of hy, for_zipT (D := ⟨nx, rt, bk, ct⟩) Pv h0 (fun i σ H _ q => hl i σ H q) e hs hd⟩⟩
end
/-- what is no list stays -/
def Kps (H H' : Hp) : Prop := ∀ b o, (∀ xs, o ≠ .lst xs) → H b = some o → H' b = some o
theorem Kps.refl (H : Hp) : Kps H H := fun _ _ _ h => h
theorem Kps.trans {A B C : Hp} (h : Kps A B) (k : Kps B C) : Kps A C := fun b o n e => k b o n (h b o n e)
theorem Kps.same {A B : Hp} (h : Same A B) : Kps A B := fun b o _ e => h b o e
theorem Kps.sx {A B : Hp} {l : Addr} {ys : List V} (hl : A l = some (.lst ys)) (h : SameX l A B) : Kps A B := fun b o n e => h b o (ne_of e hl (n _)) e
theorem Kps.st {A B : Hp} {st sc : Addr} (hs : StA A st sc) (h : SameX st A B) : Kps A B := fun b o n e => h b o (hs.ne e n) e
theorem Kps.tup {A B : Hp} (h : Kps A B) {a : Addr} {xs : List V} (e : A a = some (.tup xs)) : B a = some (.tup xs) := h _ _ (by intro xs z; cases z) e
/-! ### xs.append(e), a <= b <= c -/
def LBm (K : PySem.W.Frag) (x : V) (H : Hp) (N : Prop) : Prop := tyV K "list" x H ∧ N
theorem w_bm {K : PySem.W.Frag} {r : V → List V → Hp → VK → Prop} {to : TE} {t : TA} {σ : L2.St} {H : Hp} {Q : VK} (q : to σ H fun x H1 => LBm K x H1 (t σ H1 fun xs H2 => r x xs H2 Q)) : tBM K "list" r to t σ H Q := q
theorem k_bm {K : PySem.W.Frag} {a : Addr} {xs : List V} {H : Hp} {N : Prop} (h : H a = some (.lst xs)) (q : N) : LBm K (.ref a) H N := ⟨.inl ⟨rfl, _, SqL.of h⟩, q⟩
theorem w_chain {r r' : R2} {ta tb tc : TE} {σ : L2.St} {H : Hp} {Q : VK} (q : ta σ H fun x H1 => tb σ H1 fun y H2 => r x y H2 fun z H3 => ∃ k, z = .bl k ∧ (if k = true then tc σ H3 fun w' H4 => r' y w' H4 Q else Q (.bl false) H3)) : tChain r r' ta tb tc σ H Q := q
/-- o.m(e, ..) where the fragment is told: a suite's context bears the caught error, its fragment is the same -/
theorem pe_bmZ {X : Cx} {K : PySem.W.Frag} {o e : Expr} {es : List Expr} {to : TE} {t : TA} {m : Str} {ap cp : Pos} {T id : String} {r : V → List V → Hp → VK → Prop} (hK : X.K = K)
    (pa : PlainAttrs T) (sl : Slot T m id) (ht : typeOf (.builtin id) = pure (.type "method_descriptor")) (hm : MtR X id r) (ho : PE X o to) (ha : PA X (e :: es) t)
    (h1 : attributeBase o m X.env (eval o X.env) = eval o X.env := by rfl)
    (h2 : ((backTo cp (starEach (e :: es) X.env)).all (fun x => !x.1) && (backToKw cp (keywordEach [] X.env)).all (fun x => x.1.isSome) && decide ((e :: es).length + ([] : List Keyword).length + (if ([] : List Keyword).isEmpty then 0 else 1) < 30)) = true := by rfl)
    (h3 : (ap.endLine == cp.line) = true := by rfl) (h4 : starEach (e :: es) X.env = (false, eval e X.env) :: starEach es X.env := by rfl) (h5 : (backTo cp (starEach es X.env)).any (·.1) = false := by rfl) :
    PE X (.Call (.Attribute o m ap) (e :: es) [] cp) (tBM K T r to t) := by
  subst hK
  exact pe_bm pa sl ht hm ho ha h1 h2 h3 h4 h5
end L2.My

/-! W10: xs[i] += e; == of two lists of the same things; try with several clauses 'except C as n'. -/
namespace L2.My
open PySem PySem.Spec PyProof.Rows
section
variable {X : Cx} {H : Hp} {Q : VK} {a b : Addr} {xs : List V}
/-- the read of xs[i] += e -/
def rGetL : R2 := fun o i H Q => ∃ p ys k v, o = .ref p ∧ i = .int k ∧ H p = some (.lst ys) ∧ 0 ≤ k ∧ atI ys k = some v ∧ Q v H
theorem get_list : PGet X rGetL := by
  intro pins s σ H o i ov iv Q I ro ri ⟨p, ys, k, v, eo, ei, hp, k0, hv, q⟩
  subst eo ei
  cases ro
  obtain ⟨tk, rfl⟩ := ri
  obtain ⟨its, rv, pl, sz⟩ := I.list (SqL.of hp)
  obtain ⟨j, j1, j2, j3, -, j5⟩ := atI_get hv
  obtain ⟨w, ew, rw'⟩ := rv.get j2
  have big := line63
  have ej : k.toNat = j := by
    have j1' := j1
    rw [seqIndex_of k0 j5] at j1'
    exact Option.some.inj j1'
  exact wpAny_getItem_list pl.isList k0 (by omega) (by rw [ej]; simpa using ew) ⟨v, H, I, rw', q⟩
theorem w_getL {k : Int} {v : V} (h : H a = some (.lst xs)) (k0 : 0 ≤ k) (e : atI xs k = some v) (q : Q v H) : rGetL (.ref a) (.int k) H Q := ⟨a, xs, k, v, rfl, rfl, h, k0, e, q⟩
theorem w_augS {to ti te : TE} {tget : V → V → Hp → VK → Prop} {tip : TIp} {tset : TSet} {σ : L2.St} {H : Hp} {nx bk ct : L2.St → Hp → Prop} {rt : VK}
    (q : to σ H fun o H1 => ti σ H1 fun i H2 => tget o i H2 fun x H3 => te σ H3 fun y H4 => tip x y H4 fun z H5 => tset o i z H5 fun H6 => nx σ H6) : tAugS to ti te tget tip tset ⟨nx, rt, bk, ct⟩ σ H := q
/-- both sides are lists of the same objects, one by one -/
def rEqIds : R2 := fun x y H Q => ∃ (l m : Addr) (as : List Addr), x = .ref l ∧ y = .ref m ∧ H l = some (.lst (as.map V.ref)) ∧ H m = some (.lst (as.map V.ref)) ∧ Q (.bl true) H
theorem refs_same {as : List Addr} : ∀ {us us' : List Value}, Vals (as.map V.ref) us → Vals (as.map V.ref) us' → us = us' := by
  induction as with
  | nil => intro us us' h h'; cases h; cases h'; rfl
  | cons p as ih =>
    intro us us' h h'
    cases h with
    | cons r t =>
      cases h' with
      | cons r' t' =>
        cases r
        cases r'
        rw [ih t t']
theorem op_eqIds (hu : X.A.units < cLine) : OpR X (compareOp .Eq) rEqIds := by
  intro pins s σ H x y v u Q I rx ry ⟨l, m, as, ex, ey, hl, hm, q⟩
  subst ex ey
  cases rx
  cases ry
  obtain ⟨its, rv, pl, -⟩ := I.list (SqL.of hl)
  obtain ⟨its', rv', pl', -⟩ := I.list (SqL.of hm)
  obtain rfl := refs_same rv rv'
  refine SeqAt.eq_listAt (e := fun _ => true) pl.isList pl'.isList rfl hu (fun j h1 h2 => SeqAt.EqAt.same _) ?_
  rw [show (List.range its.toArray.size).all (fun _ => true) = true from List.all_eq_true.mpr fun _ _ => rfl]
  exact ⟨.bl true, H, I, rfl, q⟩
theorem w_eqIds {as : List Addr} (h1 : H a = some (.lst (as.map V.ref))) (h2 : H b = some (.lst (as.map V.ref))) (q : Q (.bl true) H) : rEqIds (.ref a) (.ref b) H Q := ⟨a, b, as, rfl, rfl, h1, h2, q⟩
end
/-! ### several clauses 'except C as n' -/
/-- one clause: the class, the name's slot, the suite's reading -/
structure Clause where
  c : Value
  i : Nat
  ts : Addr → Value → Option Addr → TS
/-- the ends of a suite whose name goes behind it -/
def goneE (D : Ends) (i : Nat) : Ends := { nx := fun σ H => D.nx (σ.set i none) H, rt := D.rt, bk := fun σ H => D.bk (σ.set i none) H, ct := fun σ H => D.ct (σ.set i none) H }
def wClauses (K : PySem.W.Frag) (Wo : WX) (D : Ends) : List Clause → WX
  | [] => Wo
  | k :: r => fun cls d σ H => ∃ b, PySem.W.exmOne K cls k.c = some b ∧ (b = true → ∀ a, H a = none → k.ts a cls d (goneE D k.i) (σ.set k.i (some (.ref a))) H) ∧ (b = false → wClauses K Wo D r cls d σ H)
inductive ClausesOk (X : Cx) : List ExceptHandler → List Clause → Prop
  | nil : ClausesOk X [] []
  | cons {x n : Str} {c : Value} {i : Nat} {ts : Addr → Value → Option Addr → TS} {st : Stmt} {sts : List Stmt} {np hp : Pos} {hs : List ExceptHandler} {ks : List Clause} (nd : X.N.Nodup) (at_ : X.N[i]? = some n) (loc : X.env.kindOf n = some .local) (nm : Names X x c)
      (su : ∀ (a : Addr) (oe : Obj) (cls : Value) (d : Option Addr) (pn : List (Addr × Obj)), Zc cls d oe → (∃ vs, oe.data = .fields vs) → PSs (X.suite a ((a, oe) :: pn)) (st :: sts) (ts a cls d)) (more : ClausesOk X hs ks) :
      ClausesOk X (.ExceptHandler (some (.Name x np)) (some n) (st :: sts) hp :: hs) (⟨c, i, ts⟩ :: ks)
section
variable {X : Cx} {body : List Stmt} {h0 : ExceptHandler} {hs : List ExceptHandler} {ks : List Clause} {pos : Pos} {tb : WX → TS} {Wo : WX}
theorem ps_try_clauses (stk : X.stack = X.env :: X.outer) (frm : X.env.frame = some X.env.locals) (tk : Takes X Wo)
    (bd : ∀ (W : WX) (pn : List (Addr × Obj)) (xe : Value → Shared → Prop), Takes (X.tr pn xe) W → PassesOwn (model X.prog X.w) X.A X.env xe → PSs (X.tr pn xe) body (tb W)) (cl : ClausesOk X (h0 :: hs) ks) :
    PS X (.Try body (h0 :: hs) [] [] pos) (fun D σ H => tb (wClauses X.K Wo D ks) D σ H) := by
  refine ⟨fun pins s σ H D I wish => wpAny_Try_except ?_⟩
  have good := I.ok
  have frs0 : X.A.frames = some (X.env :: X.outer) := good.frames.trans (by rw [stk])
  refine wpAny_mono ((bd (wClauses X.K Wo D ks) (X.pn ++ pins) (fun e s1 => wpAny (model X.prog X.w) X.A (noteFrame e X.env) (fun _ s2 => wpAny (model X.prog X.w) X.A (setFlight e none) (fun _ s3 => wpAny (model X.prog X.w) X.A (handleBy e X.env (h0 :: hs)) (SP X pins D) X.xe s3) X.xe s2) X.xe s1)
    (fun u s1 air => ?_) PassesOwn.looking).run [] s σ H D (I.toTry _) wish) (fun f s1 out => ?_) (fun _ _ z => z)
  · obtain ⟨a, B, s0, pins1, σ1, H1, cls, d, rfl, J0, ground, upTo, sky0, free, sameOs, bare, wants⟩ := air
    have J : Inv X pins σ1 H1 s0 := J0.ofTry good
    rw [stk] at sky0
    show wpAny _ X.A (noteFrame (.ref a) X.env) _ _ _
    refine Sky.land Zc.steady frs0 frm sky0 fun g fly up1 => ?_
    have upAll := upTo.trans up1
    have JL : Inv X pins σ1 H1 { s1 with heap := g } := J.landed ground fly.1 upAll sameOs bare
    obtain ⟨oe, fs, atA, isZ, dat⟩ := fly.there
    have out0 : a ∉ frs (X.env :: X.outer) := fun mem => by
      obtain ⟨_, o2, at2, notF⟩ := fly.2.2.1.mem mem
      rw [atA] at at2
      cases at2
      exact notF _ dat
    have outL : a ≠ X.env.locals := fun z => out0 (List.mem_filterMap.mpr ⟨X.env, List.mem_cons_self, by rw [frm, z]⟩)
    have outF : a ∉ X.fs := fun mem => by
      obtain ⟨ev, mv, qv⟩ := List.mem_filterMap.mp mem
      exact out0 (List.mem_filterMap.mpr ⟨ev, List.mem_cons_of_mem _ mv, qv⟩)
    have JS := JL.suite atA dat free outL outF
    have each : ∀ {hs' : List ExceptHandler} {ks' : List Clause}, ClausesOk X hs' ks' → wClauses X.K Wo D ks' cls d σ1 H1 → wpAny (model X.prog X.w) X.A (handleBy (.ref a) X.env hs') (SP X pins D) X.xe { s1 with heap := g } := by
      intro hs' ks' ok'
      induction ok' with
      | nil =>
        intro last
        obtain ⟨q1, q2, q3, oe', fs', T, oT, tf, atE, zE, dE, f1, rest⟩ := id fly
        have thrown : wpAny (model X.prog X.w) X.A (setFlight (.ref a) X.env.frame) (fun _ s4 => wpAny (model X.prog X.w) X.A (throw (.ref a) : Sem Flow) (SP X pins D) X.xe s4) X.xe { s1 with heap := g } := by
          rw [frm]
          exact HandSPX.setFlight_upZ fly fun g2 held up2 => wpAny_throw (tk _ _ ⟨a, B, s0, pins, σ1, H1, cls, d, rfl, J, ground, upAll.trans up2, .inr (.inr (by rw [stk]; exact held)), free, sameOs, bare, last⟩)
        refine wpAny_handleBy_nil ?_
        unfold PySem.passOn
        refine wpAny_bind (wpAny_field atE dE f1 ?_)
        rw [if_neg (by simp : ¬ ((Value.ref T == Value.none) = true))]
        first
          | exact wpAny_bind (wpAny_pure (wpAny_bind thrown))
          | exact wpAny_bind thrown
      | @cons x n kc ki kts st sts np hp hs2 ks2 nd at_ loc nm su more ih =>
        rintro ⟨b, isB, yes, no⟩
        refine wpAny_handleBy_cons (codeAny_handlers_test ?_) (by intro z; cases z)
        have lookT : PySem.W.Looks (model X.prog X.w) g (typeOf (.ref a)) cls := fun _ _ _ _ keep q => wpAny_typeOf_ref (keep _ _ atA) (by rw [isZ.1]; exact q)
        have lookM := PySem.W.exm_one (M := model X.prog X.w) JL.kIn lookT isB
        have named : ∀ {Q E : Value → Shared → Prop}, Q kc { s1 with heap := g } → wpAny (model X.prog X.w) (X.A.mark (some (.ref a))) (eval (.Name x np) X.env) Q E { s1 with heap := g } := fun {Q E} q => by
          obtain ⟨gl, nodbg, m1 | ⟨m1, m2, m3⟩⟩ := nm
          · exact ld_glob (X := X.suite a ((a, oe) :: (X.pn ++ pins))) JS gl m1 q nodbg
          · exact ld_blt (X := X.suite a ((a, oe) :: (X.pn ++ pins))) JS gl m1 m2 q m3 nodbg
        refine named (lookM.here ?_)
        cases b with
        | false =>
          show wpAny _ X.A (handleBy (.ref a) X.env hs2) _ _ _
          exact ih (no rfl)
        | true =>
          refine codeAny_handlers_suite_as (HandSPX.lands_againZ fly fun g2 fly2 up2 => ?_)
          have J2 : Inv X pins σ1 H1 { s1 with heap := g2 } := J.landed ground fly2.1 (upAll.trans up2) sameOs bare
          obtain ⟨oe2, fs2, at2, isZ2, dat2⟩ := fly2.there
          refine store_ok (X := X.suite a ((a, oe2) :: (X.pn ++ pins))) (v := .ref a) (J2.suite at2 dat2 free outL outF) nd at_ (.inl loc) rfl (fun s5 J5 => ?_) (.inr loc)
          have ends : ∀ {σ6 : St} {H6 : Hp} {s6 : Shared} {Q : Shared → Prop}, Inv (X.suite a ((a, oe2) :: (X.pn ++ pins))) [] σ6 H6 s6 → (∀ s7, Inv X pins (σ6.set ki none) H6 s7 → Q s7) →
              wpAny (model X.prog X.w) X.A (do bindName X.env n .none; unbindBehindTheSuite X.env n hp) (fun _ s7 => Q s7) X.xe s6 := fun J6 q => gone_ok (J6.unsuite good) nd at_ loc q
          refine wpAny_mono ((su a oe2 cls d (X.pn ++ pins) isZ2 ⟨_, dat2⟩).run [] s5 _ H1 _ J5 (yes rfl a free)) (fun f s6 left => ?_) (fun _ _ z => z.elim)
          cases f with
          | ret u => obtain ⟨v6, σ6, H6, J6, r6, q6⟩ := left; exact ends J6 fun s7 J7 => ⟨_, _, _, J7, r6, q6⟩
          | next => obtain ⟨σ6, H6, J6, q6⟩ := left; exact ends J6 fun s7 J7 => ⟨_, _, J7, q6⟩
          | brk => obtain ⟨σ6, H6, J6, q6⟩ := left; exact ends J6 fun s7 J7 => ⟨_, _, J7, q6⟩
          | cont => obtain ⟨σ6, H6, J6, q6⟩ := left; exact ends J6 fun s7 J7 => ⟨_, _, J7, q6⟩
    exact each cl wants
  · cases f with
    | ret u => obtain ⟨v, σ2, H2, J2, r2, q2⟩ := out; exact ⟨v, σ2, H2, J2.ofTry good, r2, q2⟩
    | next => obtain ⟨σ2, H2, J2, q2⟩ := out; exact wpAny_execs_nil ⟨σ2, H2, J2.ofTry good, q2⟩
    | brk => obtain ⟨σ2, H2, J2, q2⟩ := out; exact ⟨σ2, H2, J2.ofTry good, q2⟩
    | cont => obtain ⟨σ2, H2, J2, q2⟩ := out; exact ⟨σ2, H2, J2.ofTry good, q2⟩
end
theorem k_cl1 {K : PySem.W.Frag} {Wo : WX} {nx bk ct : L2.St → Hp → Prop} {rt : VK} {c : Value} {i : Nat} {ts : Addr → Value → Option Addr → TS} {r : List Clause} {cls : Value} {d : Option Addr} {σ : L2.St} {H : Hp} (e : PySem.W.exmOne K cls c = some true)
    (q : ∀ a, H a = none → ts a cls d ⟨fun σ H => nx (σ.set i none) H, rt, fun σ H => bk (σ.set i none) H, fun σ H => ct (σ.set i none) H⟩ (σ.set i (some (.ref a))) H) : wClauses K Wo ⟨nx, rt, bk, ct⟩ (⟨c, i, ts⟩ :: r) cls d σ H :=
  ⟨true, e, fun _ => q, fun z => nomatch z⟩
theorem k_cl2 {K : PySem.W.Frag} {Wo : WX} {D : Ends} {k : Clause} {r : List Clause} {cls : Value} {d : Option Addr} {σ : L2.St} {H : Hp} (e : PySem.W.exmOne K cls k.c = some false) (q : wClauses K Wo D r cls d σ H) : wClauses K Wo D (k :: r) cls d σ H :=
  ⟨false, e, fun z => (nomatch z), fun _ => q⟩
theorem w_isN {A : Prop} (q : A) : V.non = V.non ∧ A := ⟨rfl, q⟩
end L2.My

/-! W11: math.lcm of two, for over enumerate, comprehensions over tuples and zips with draws. -/
namespace L2.My
open PySem PySem.Spec PyProof.Rows
def rLcm : List V → Hp → VK → Prop := fun vs H Q => ∃ a b : Int, vs = [.int a, .int b] ∧ a.natAbs < 2 ^ 64 ∧ b.natAbs < 2 ^ 64 ∧ Q (.int ((a.natAbs.lcm b.natAbs : Nat) : Int)) H
theorem cr_lcm {X : Cx} : CallR X (.builtin "math.lcm") rLcm := by
  intro pins s σ H vs us Q I r h
  obtain ⟨a, b, rfl, ha, hb, q⟩ := h
  cases r with
  | cons ra r =>
    cases r with
    | cons rb r =>
      cases r
      obtain ⟨t, rfl⟩ := ra
      obtain ⟨u, rfl⟩ := rb
      exact PySem.W.mc_lcm ha hb fun _ => ⟨.int ((a.natAbs.lcm b.natAbs : Nat) : Int), H, I.tok _, ⟨_, rfl⟩, q⟩
theorem w_lcm {a b : Int} {H : Hp} {Q : VK} (ha : a.natAbs < 2 ^ 64) (hb : b.natAbs < 2 ^ 64) (q : Q (.int ((a.natAbs.lcm b.natAbs : Nat) : Int)) H) : rLcm [.int a, .int b] H Q := ⟨a, b, rfl, ha, hb, q⟩
section
variable {K : PySem.W.Frag} {σ : St} {H : Hp} {g : TG} {tb : TS} {D : Ends} {a b : Addr} {xs ys : List V} {ta : TA} {te : TE} {tt : TT} {ws : List Nat} {Q : VK}
def ForEn (K : PySem.W.Frag) (g : TG) (tb : TS) (D : Ends) (σ : St) (vs : List V) (H : Hp) : Prop := tFor (iEnum K fun _ H Q => Q vs H) g tb D σ H
theorem w_forEn (q : ta σ H fun vs H1 => ForEn K g tb D σ vs H1) : tFor (iEnum K ta) g tb D σ H := q
theorem k_forEn {nx bk ct : L2.St → Hp → Prop} {rt : VK} (Pv : Nat → St → Hp → Prop) (hx : SqL K H a xs) (h0 : Pv 0 σ H) (hl : ∀ i σ H, Pv i σ H → SqL K H a xs)
    (hs : ∀ i x σ H T H', xs[i]? = some x → Pv i σ H → H T = none → Same H H' → H' T = some (.tup [.int (i : Nat), x]) → g (.ref T) σ H' fun σ2 H2 => tb ⟨Pv (i + 1), rt, nx, Pv (i + 1)⟩ σ2 H2) (hd : ∀ σ H, Pv xs.length σ H → nx σ H) :
    ForEn K g tb ⟨nx, rt, bk, ct⟩ σ [.ref a] H := by
  refine ⟨a, xs, rfl, hx, fun i m σ H => Pv i σ H ∧ m + i = xs.length, ⟨xs.length, h0, rfl⟩, fun i m σ H ⟨q, em⟩ => ?_⟩
  have l1 := hl i σ H q
  rcases Nat.lt_or_ge i xs.length with h | h
  · right
    have ex : xs[i]? = some xs[i] := List.getElem?_eq_getElem h
    refine ⟨⟨xs, _, l1, ex⟩, Pv (i + 1), fun σ' H' q' => ⟨m - 1, by omega, q', by omega⟩, ?_⟩
    rintro x H' ⟨T, x', rfl, hT, rfl, h1⟩
    exact hs i x' σ H T _ (h1 xs l1) q hT (Same.new hT) upd_same
  · left
    obtain rfl : i = xs.length := by omega
    exact ⟨⟨xs, l1, Nat.le_refl _⟩, hd σ H q⟩
/-- a comprehension over a tuple, any -/
theorem k_lcT (Pv : Nat → Addr → Hp → Prop) (h : H a = some (.tup xs)) (h0 : ∀ D, H D = none → Pv 0 D (upd H D (.lst []))) (hl : ∀ i D H', Pv i D H' → H' a = some (.tup xs))
    (hs : ∀ i x D H, xs[i]? = some x → Pv i D H → g x (wipe σ ws) H fun σ2 H2 => wipe σ2 ws = wipe σ ws ∧ tt σ2 H2 fun b H3 =>
      if b = true then te σ2 H3 fun y H4 => ∃ acc, H4 D = some (.lst acc) ∧ acc.length < sizeLine ∧ Pv (i + 1) D (upd H4 D (.lst (acc ++ [y]))) else Pv (i + 1) D H3) (hd : ∀ D H, Pv xs.length D H → Q (.ref D) H) : CompT K g tt te ws σ (.ref a) H Q :=
  ⟨a, rfl, ⟨_, SqT.of h⟩, fun D hD => lc_tup (xs := xs) (fun i H => Pv i D H) (h0 D hD) (fun i H _ q => SqT.of (hl i D H q)) (fun i x H hx q => hs i x D H hx q) (fun H q => hd D H q)⟩
/-- .. over a zip of two tuples -/
def CompZT (K : PySem.W.Frag) (g : TG) (tt : TT) (te : TE) (ws : List Nat) (σ : St) (vs : List V) (H : Hp) (Q : VK) : Prop := tLc (RZ.iZipA K fun _ H Q => Q vs H) g tt te ws σ H Q
theorem w_lcZT (q : ta σ H fun vs H1 => CompZT K g tt te ws σ vs H1 Q) : tLc (RZ.iZipA K ta) g tt te ws σ H Q := q
theorem k_lcZT (Pv : Nat → Addr → Hp → Prop) (ha : H a = some (.tup xs)) (hb : H b = some (.tup ys)) (e : xs.length = ys.length) (h0 : ∀ D, H D = none → Pv 0 D (upd H D (.lst []))) (hl : ∀ i D H', Pv i D H' → H' a = some (.tup xs) ∧ H' b = some (.tup ys))
    (hs : ∀ i x y D H T H', xs[i]? = some x → ys[i]? = some y → Pv i D H → H T = none → Same H H' → H' T = some (.tup [x, y]) → g (.ref T) (wipe σ ws) H' fun σ2 H2 => wipe σ2 ws = wipe σ ws ∧ tt σ2 H2 fun b H3 =>
      if b = true then te σ2 H3 fun z H4 => ∃ acc, H4 D = some (.lst acc) ∧ acc.length < sizeLine ∧ Pv (i + 1) D (upd H4 D (.lst (acc ++ [z]))) else Pv (i + 1) D H3) (hd : ∀ D H, Pv xs.length D H → Q (.ref D) H) : CompZT K g tt te ws σ [.ref a, .ref b] H Q := by
  refine ⟨a, b, xs, ys, rfl, .inr ⟨SqT.of ha, SqT.of hb, fun D hD => ⟨fun i m H => Pv i D H ∧ m + i = xs.length, ⟨xs.length, h0 D hD, rfl⟩, fun i m H ⟨q, em⟩ => ?_⟩⟩⟩
  obtain ⟨l1, l2⟩ := hl i D H q
  rcases Nat.lt_or_ge i xs.length with h | h
  · right
    have ex : xs[i]? = some xs[i] := List.getElem?_eq_getElem h
    have ey : ys[i]? = some (ys[i]'(by omega)) := List.getElem?_eq_getElem (by omega)
    refine ⟨⟨xs, ys, _, _, SqT.of l1, SqT.of l2, ex, ey⟩, Pv (i + 1) D, fun H' q' => ⟨m - 1, by omega, q', by omega⟩, ?_⟩
    rintro x H' ⟨T, x', y', rfl, hT, rfl, h1, h2⟩
    exact hs i x' y' D H T _ (h1 xs (SqT.of l1)) (h2 ys (SqT.of l2)) q hT (Same.new hT) upd_same
  · left
    obtain rfl : i = xs.length := by omega
    exact ⟨⟨xs, ys, SqT.of l1, SqT.of l2, .inl (Nat.le_refl _)⟩, hd D H q⟩
end
theorem w_notB {b c : Bool} {H : Hp} {Q : VK} (q : Q (.bl (!decide (b = c))) H) : rNotB (.bl b) (.bl c) H Q := ⟨b, c, rfl, rfl, q⟩
end L2.My

/-! W12: == of two tuples whose items an own == compares, with either answer. -/
namespace L2.My
open PySem PySem.SeqAt
open AutoSeq1 (wpAny_loadPart')
open MeetsSeq MeetsSeq2 MeetsSeq3 SeqRoads2
section
variable {P : Program} {w : World} {A : Around} {R : Result → Shared → Prop}
theorem tup_eqB (p q : Addr) (as bs : Array Value) (n m : Nat) (da db : Option Addr) (sa sb : Array (Option Value)) (sz : as.size = bs.size) (e : Nat → Bool) (v : Bool) (ev : (List.range as.size).all e = v) (J : Nat → Shared → Prop)
    (go : ∀ i (h1 : i < as.size) (h2 : i < bs.size) t, J i t → wpAny (model P w) A.in1 (eqBool as[i] bs[i]) (fun r t' => r = e i ∧ J (i + 1) t') (fun er t' => R (.error er) t') t)
    (out : ∀ i t, J i t → R (.ok (.ret (.bool v))) t) {s : Shared} (lp : s.heap.get? p = some { cls := .type "tuple", dict := da, data := .seq as n, slots := sa }) (lq : s.heap.get? q = some { cls := .type "tuple", dict := db, data := .seq bs m, slots := sb }) (start : J 0 s) :
    wpAny (model P w) A.in1 (Builtin.«tuple.__eq__» ⟨[.ref p, .ref q], []⟩) (GQ.FinOf P w A R) (fun er t' => R (.error er) t') s := by
  have sub2 := AutoSeq1.sub_tuple_tuple
  have zl : (as.toList.zip bs.toList).length = as.size := by simp [sz]
  have keep := start
  obtain ⟨hp, gg, dd, tk, os⟩ := s
  wp_walk using wpAny_loadPart' lp, wpAny_loadPart' lq, wpAny_forIn_list _ (fun rest st t => st.1 = none ∧ ∃ i, rest = (as.toList.zip bs.toList).drop i ∧ i ≤ as.size ∧ ((List.range as.size).drop i).all e = v ∧ J i t) _
  case turn =>
    rintro ⟨y, x⟩ rest st t ⟨no, i, ez, le, al, hJ⟩
    have lt : i < (as.toList.zip bs.toList).length := by
      refine Nat.lt_of_not_le fun z => ?_
      rw [List.drop_of_length_le z] at ez
      cases ez
    have h1 : i < as.size := zl ▸ lt
    have h2 : i < bs.size := sz ▸ h1
    rw [List.drop_eq_getElem_cons lt] at ez
    injection ez with e1 e2
    obtain rfl : y = as[i] := by simpa using congrArg Prod.fst e1
    obtain rfl : x = bs[i] := by simpa using congrArg Prod.snd e1
    rw [show (List.range as.size).drop i = i :: (List.range as.size).drop (i + 1) by simp [List.drop_eq_getElem_cons, h1], List.all_cons] at al
    refine wpAny_bind (wpAny_mono (go i h1 h2 t hJ) (fun r t2 z => ?_) fun _ _ z => z)
    obtain ⟨rfl, J2⟩ := z
    cases eb : e i with
    | true =>
      rw [eb, Bool.true_and] at al
      wp_walk
      exact ⟨rfl, i + 1, e2, h1, al, J2⟩
    | false =>
      have o := out _ _ J2
      rw [eb, Bool.false_and] at al
      subst al
      wp_walk
      exact o
  case fin =>
    rintro ⟨z1, z2⟩ t ⟨no, i, ez, le, al, hJ⟩
    simp only at no
    subst no
    have ge : as.size ≤ i := Nat.le_of_not_lt fun z => by
      rw [List.drop_eq_getElem_cons (by rw [zl]; exact z)] at ez
      cases ez
    rw [List.drop_of_length_le (by simpa using ge)] at al
    have o := out _ _ hJ
    rw [← al] at o
    wp_walk
    simpa [Builtin.Tuple.tupleCompareSizes, sz] using o
  case h => exact ⟨rfl, 0, rfl, Nat.zero_le _, by simpa using ev, keep⟩
end
open PySem.Spec PyProof.Rows
/-- what == says of two things, told -/
abbrev EqvB := V → V → Hp → Bool → Prop
def RcB (X : Cx) (n : Nat) (D : EqvB) : Prop :=
  ∀ (A : Around) (pins : List (Addr × Obj)) (s : Shared) (σ : L2.St) (H : Hp) (x y : V) (u v : Value) (b : Bool), Sub X n A → Inv X pins σ H s → RelV x u → RelV y v → D x y H b →
    wpAny (model X.prog X.w) A (richCompare .Eq u v) (fun r t => r = .bool b ∧ ∃ H', Inv X pins σ H' t ∧ Ext H H') X.xe s
def EqB (X : Cx) (n : Nat) (D : EqvB) : Prop :=
  ∀ (A : Around) (pins : List (Addr × Obj)) (s : Shared) (σ : L2.St) (H : Hp) (x y : V) (u v : Value) (b : Bool), Sub X n A → Inv X pins σ H s → RelV x u → RelV y v → D x y H b →
    wpAny (model X.prog X.w) A (eqBool u v) (fun r t => r = b ∧ ∃ H', Inv X pins σ H' t ∧ Ext H H') X.xe s
/-- instances of the class C: what its own == promises -/
def DInB (C : Addr) (R : Addr → Addr → Hp → Bool → Prop) : EqvB := fun x y H b => ∃ p q dx dy fs gs, x = .ref p ∧ y = .ref q ∧ H p = some (.ins C dx fs) ∧ H q = some (.ins C dy gs) ∧ R p q H b
section
variable {X : Cx} {n : Nat} {D : EqvB}
theorem rcB_ins {CX : CXT} {C f : Addr} {fd : FuncData} {ps : List Str} {R : Addr → Addr → Hp → Bool → Prop} {sp : Sp} {E : XK} (F : FnOk X.prog X.w X.K X.mg X.base CX n f fd ps sp)
    (keeps : ∀ p q H b, R p q H b → sp [.ref p, .ref q] H (fun z H' => z = .bl b ∧ Ext H H') E)
    (at_ : PySem.W.findIn X.K (.ref C) "__eq__" = some (some (.ref f))) (fn : PySem.W.isFn X.K (.ref f) = true) (bi : Binds X.K fd ps []) (px : Passes CX X E) : RcB X n (DInB C R) := by
  intro A pins s σ H x y u v b sub I rx ry ⟨p, q, dx, dy, fs, gs, ex, ey, hp, hq, hR⟩
  subst ex ey
  cases rx
  cases ry
  obtain ⟨m1, J, _⟩ := ins_get I.hok hp
  obtain ⟨m2, J', _⟩ := ins_get I.hok hq
  obtain ⟨od, J, _⟩ := J.look
  obtain ⟨od', J', _⟩ := J'.look
  obtain ⟨mm, hF⟩ := I.fr
  have want := keeps p q H b hR
  have lens := F.len _ _ _ _ want
  have env : Env0 X.prog X.w X.K X.mg X.base A X.stack s H := ⟨by rw [sub.fr]; exact I.env0.frames, I.env0.mod, I.env0.bs, I.env0.bsz, I.env0.funs, I.env0.frf, I.env0.hok, I.env0.bare⟩
  refine PySem.W.cmp_K (op := .Eq) (tb := .ref C) sub.room.units0 hF I.ok.mod.kin J J'.type (by simp [PySem.W.notFirst]) at_ fn ?_
  refine wpAny_call (codeAny_mono (F.run A X.stack s H ⟨[.ref p, .ref q], []⟩ [.ref p, .ref q] [.ref p, .ref q] _ E sub.room env (by simpa using bi s [.ref p, .ref q] I.kIn (by simpa using lens)) (.cons rfl (.cons rfl .nil)) want) fun r t hr => ?_)
  cases r with
  | error er => exact px pins σ H s er t I hr
  | ok fl =>
    cases fl with
    | ret z =>
      obtain ⟨z', H', I', rz, ez, ext⟩ := I.after hr
      subst ez
      cases rz
      exact ⟨rfl, H', I', ext⟩
    | next => exact hr.elim
    | brk => exact hr.elim
    | cont => exact hr.elim
theorem RcB.eqB (h : RcB X n D) (refs : ∀ x y H b, D x y H b → ∃ p q, x = .ref p ∧ y = .ref q) (self : ∀ p H b, D (.ref p) (.ref p) H b → b = true) : EqB X n D := by
  intro A pins s σ H x y u v b sub I rx ry d
  obtain ⟨p, q, ex, ey⟩ := refs _ _ _ _ d
  subst ex ey
  cases rx
  cases ry
  by_cases pq : p = q
  · subst pq
    rw [self _ _ _ d]
    exact SeqAt.EqAt.same (A := A) (s := s) (.ref p) X.prog X.w X.xe _ ⟨rfl, H, I, Ext.rfl'⟩
  · refine GQ.eqBool_refG pq (wpAny_mono (h A pins s σ H (.ref p) (.ref q) _ _ b sub I rfl rfl d) (fun r t z => ?_) fun _ _ z => z)
    exact ⟨b, z.1, rfl, z.2⟩
/-- tuples of two such items each -/
def DTwo (K : PySem.W.Frag) (D : EqvB) : EqvB := fun x y H b => ∃ p q x0 x1 y0 y1 b0 b1, x = .ref p ∧ y = .ref q ∧ SqT K H p [x0, x1] ∧ SqT K H q [y0, y1] ∧ D x0 y0 H b0 ∧ D x1 y1 H b1 ∧ b = (b0 && b1)
theorem rcB_two (mon : ∀ x y H H' b, Ext H H' → D x y H b → D x y H' b) (h : EqB X n D) : RcB X (n + 1) (DTwo X.K D) := by
  intro A pins s σ H x y u v b sub I rx ry ⟨p, q, x0, x1, y0, y1, b0, b1, ex, ey, hp, hq, d0, d1, eb⟩
  subst ex ey
  cases rx
  cases ry
  obtain ⟨its, r1, pl, -⟩ := I.tuple hp
  obtain ⟨its', r2, pl', -⟩ := I.tuple hq
  cases r1 with
  | cons ra r1 =>
    cases r1 with
    | cons rb r1 =>
      cases r1
      cases r2 with
      | cons rc r2 =>
        cases r2 with
        | cons rd r2 =>
          cases r2
          obtain ⟨⟨c1, e1, f1, g1⟩, ho, hc, k1, hd⟩ := id pl
          obtain ⟨⟨c2, e2, f2, g2⟩, ho2, hc2, k2, hd2⟩ := id pl'
          simp only at hc hd hc2 hd2
          subst hc hd hc2 hd2
          refine wpAny_richCompare_same_room (op := .Eq) ⟨_, ho, rfl⟩ ⟨_, ho2, rfl⟩ F.slot_tuple_eq (GQ.call_here F.slot_tuple_eq ⟨_, ho, rfl⟩ F.entry_tuple_eq (F.args_tuple_eq_2 _ _) ?_) sub.room.units0
          refine tup_eqB (R := wants (fun z t => z ≠ .notImplemented ∧ (z = .bool b ∧ ∃ H', Inv X pins σ H' t ∧ Ext H H')) X.xe) p q _ _ _ _ _ _ _ _ (by simp) (fun i => if i = 0 then b0 else b1) b ?_ (fun _ t => ∃ H', Inv X pins σ H' t ∧ Ext H H') ?_ ?_ ho ho2 ⟨H, I, Ext.rfl'⟩
          · rw [eb]
            show ((List.range 2).all _) = _
            simp [List.range_succ]
          · rintro i h1 h2 t ⟨H1, I1, x1'⟩
            have hi : i = 0 ∨ i = 1 := by have : i < 2 := h1; omega
            rcases hi with rfl | rfl
            · refine wpAny_mono (h A.in1 pins t σ H1 x0 y0 _ _ b0 sub.in1 I1 ra rc (mon _ _ _ _ _ x1' d0)) (fun r t' z => ?_) fun _ _ z => z
              obtain ⟨z1, H2, I2, x2⟩ := z
              exact ⟨z1, H2, I2, x1'.trans x2⟩
            · refine wpAny_mono (h A.in1 pins t σ H1 x1 y1 _ _ b1 sub.in1 I1 rb rd (mon _ _ _ _ _ x1' d1)) (fun r t' z => ?_) fun _ _ z => z
              obtain ⟨z1, H2, I2, x2⟩ := z
              exact ⟨z1, H2, I2, x1'.trans x2⟩
          · exact fun i t z => ⟨fun y => (nomatch y), rfl, z⟩
/-- x == y -/
def rEqB (D : EqvB) : R2 := fun x y H Q => ∃ b, D x y H b ∧ ∀ H', Ext H H' → Q (.bl b) H'
theorem op_eqB (h : RcB X n D) (hr : Room n X.A) : OpR X (compareOp .Eq) (rEqB D) := by
  intro pins s σ H x y v u Q I rx ry ⟨b, d, q⟩
  show wpAny (model X.prog X.w) X.A (richCompare .Eq v u) (EP X pins σ Q) X.xe s
  refine wpAny_mono (h X.A pins s σ H x y v u b ⟨hr, rfl⟩ I rx ry d) (fun r t z => ?_) fun _ _ z => z
  obtain ⟨z1, H', I', e⟩ := z
  subst z1
  exact ⟨.bl b, H', I', rfl, q H' e⟩
end
end L2.My

/-! W13: == of tuples of two instances by their own ==, of tuples with the same things in them. -/
namespace L2.My
open PySem PySem.Spec PyProof.Rows
section
variable {X : Cx} {n j k : Nat}
theorem RcB.mono' {D : EqvB} (h : RcB X n D) (l : n ≤ j) : RcB X j D := fun A pins s σ H x y u v b sb => h A pins s σ H x y u v b (sb.mono l)
theorem op_eqTwo {C : Addr} {ps : List Str} {sp : Sp} {E : XK} {R : Addr → Addr → Hp → Bool → Prop} (h : HasM X.prog X.w X.K X.mg X.base C "__eq__" k ps sp) (hr : Room j X.A) (hx : Passes (L2.CX X.prog X.w) X E)
    (keeps : ∀ p q H b, R p q H b → sp [.ref p, .ref q] H (fun z H' => z = .bl b ∧ Ext H H') E) (mon : ∀ p q H H' b, Ext H H' → R p q H b → R p q H' b) (self : ∀ p H b, R p p H b → b = true) (hj : k + 1 ≤ j := by decide) :
    OpR X (compareOp .Eq) (rEqB (DTwo X.K (DInB C R))) := by
  obtain ⟨f, fd, Fo, hm, hb⟩ := h
  have r1 : RcB X k (DInB C R) := rcB_ins Fo keeps hm.at_ hm.fn hb hx
  have r2 : EqB X k (DInB C R) := r1.eqB (fun x y H b d => by obtain ⟨p, q, _, _, _, _, e1, e2, _⟩ := d; exact ⟨p, q, e1, e2⟩) (fun p H b d => by
    obtain ⟨p', q', _, _, _, _, e1, e2, _, _, r⟩ := d
    cases e1
    cases e2
    exact self _ _ _ r)
  refine op_eqB (rcB_two (fun x y H H' b e d => ?_) r2) (hr.mono hj)
  obtain ⟨p, q, dx, dy, fs, gs, e1, e2, h1, h2, r⟩ := d
  exact ⟨p, q, dx, dy, fs, gs, e1, e2, e _ _ h1, e _ _ h2, mon _ _ _ _ _ e r⟩
/-- flat and equal, or the same object -/
def DSame : Eqv := fun x y H => DFlat x y H ∨ ∃ a, x = .ref a ∧ y = .ref a
theorem mon_same : Mon DSame := fun _ _ _ _ _ d => d
theorem eqG_same : EqG X 0 DSame := fun A pins s σ H x y u v sb I rx ry d => by
  rcases d with d | ⟨a, e1, e2⟩
  · exact eqG_flat A pins s σ H x y u v sb I rx ry d
  · subst e1 e2
    cases rx
    cases ry
    exact SeqAt.EqAt.same (A := A) (s := s) (.ref a) X.prog X.w X.xe _ ⟨rfl, H, I, Ext.rfl'⟩
theorem op_eqSame (hr : Room 1 X.A) : OpR X (compareOp .Eq) (rEqG (DTup X.K DSame)) := op_eqG (rcG_tup mon_same eqG_same) hr
/-- (text, thing) == (text, thing) -/
theorem w_eqSame2 {K : PySem.W.Frag} {p q : Addr} {s : Str} {v : V} {H : Hp} {Q : VK} (h1 : H p = some (.tup [.str s, v])) (h2 : H q = some (.tup [.str s, v])) (hv : (∃ a, v = .ref a) ∨ v = .non ∨ ∃ k, v = .int k) (q' : ∀ H', Ext H H' → Q (.bl true) H') : rEqG (DTup K DSame) (.ref p) (.ref q) H Q := by
  refine ⟨⟨p, q, _, _, rfl, rfl, SqT.of h1, SqT.of h2, .cons (.inl ⟨rfl, rfl, by simp [eqV]⟩) (.cons ?_ .nil)⟩, q'⟩
  rcases hv with ⟨a, rfl⟩ | rfl | ⟨k, rfl⟩
  · exact .inr ⟨a, rfl, rfl⟩
  · exact .inl ⟨rfl, rfl, rfl⟩
  · exact .inl ⟨rfl, rfl, by simp [eqV]⟩
end
end L2.My

/-! W14: the signs of t + r * the square root of 2, by whole numbers p, q with p * p = 2 * q * q + 1 far enough out: t * q + r * p has the same sign. -/
namespace L2.My
/-- the sign of t + r * the square root of 2 -/
def sg2 (t r : Int) : Int :=
  if t = 0 ∧ r = 0 then 0 else if 0 ≤ t ∧ 0 ≤ r then 1 else if t ≤ 0 ∧ r ≤ 0 then -1 else if t * t > 2 * r * r then (if 0 < t then 1 else -1) else if 0 < r then 1 else -1
structure Pell (p q : Int) : Prop where
  e : p * p = 2 * (q * q) + 1
  p : 0 < p
  q : 0 < q
theorem sq_le {x y : Int} (hx : 0 ≤ x) (h : x ≤ y) : x * x ≤ y * y := Int.mul_le_mul h h hx (by omega)
theorem sq_lt_of {x y : Int} (hy : 0 ≤ y) (h : x * x < y * y) : x < y := by
  refine Int.not_le.mp fun z => ?_
  have := sq_le hy z
  omega
theorem Pell.next {p q : Int} (h : Pell p q) : Pell (3 * p + 4 * q) (2 * p + 3 * q) := by
  obtain ⟨e, hp, hq⟩ := h
  exact ⟨by grind, by omega, by omega⟩
theorem pell_far (n : Nat) : ∃ p q, Pell p q ∧ (n : Int) < q := by
  induction n with
  | zero => exact ⟨3, 2, ⟨by decide, by decide, by decide⟩, by decide⟩
  | succ n ih =>
    obtain ⟨p, q, h, l⟩ := ih
    have := h.p
    exact ⟨_, _, h.next, by omega⟩
theorem Pell.lo {p q : Int} (h : Pell p q) : 7 * q < 5 * p := by
  have := h.e
  have := h.p
  have := h.q
  refine sq_lt_of (by omega) ?_
  have h2 : 0 < q * q := Int.mul_pos h.q h.q
  have e1 : 7 * q * (7 * q) = 49 * (q * q) := by grind
  have e2 : 5 * p * (5 * p) = 25 * (p * p) := by grind
  omega
theorem Pell.hi {p q : Int} (h : Pell p q) : 2 * p ≤ 3 * q := by
  have := h.e
  have := h.p
  have := h.q
  refine Int.not_lt.mp fun z => ?_
  have h2 := sq_le (x := 3 * q + 1) (y := 2 * p) (by omega) (by omega)
  have e1 : (3 * q + 1) * (3 * q + 1) = 9 * (q * q) + 6 * q + 1 := by grind
  have e2 : 2 * p * (2 * p) = 4 * (p * p) := by grind
  have h3 : 0 < q * q := Int.mul_pos h.q h.q
  have h4 : 1 * q ≤ q * q := Int.mul_le_mul_of_nonneg_right (by omega) (by omega)
  omega
/-- the signs are told by the whole number -/
theorem sg2_pell {t r p q : Int} (h : Pell p q) (hr : (r.natAbs : Int) < q) : (0 < t * q + r * p → sg2 t r = 1) ∧ (t * q + r * p < 0 → sg2 t r = -1) ∧ (t * q + r * p = 0 → t = 0 ∧ r = 0) := by
  obtain ⟨e, hp, hq⟩ := h
  have r2 : r * r < q * q := by
    have : (r.natAbs : Int) * r.natAbs = r * r := by
      rw [← Int.natCast_mul, Int.natAbs_mul_self]
    have l := sq_le (x := (r.natAbs : Int)) (y := q - 1) (by omega) (by omega)
    have e1 : (q - 1) * (q - 1) = q * q - 2 * q + 1 := by grind
    omega
  have r0 : 0 ≤ r * r := by
    rcases Int.le_total 0 r with h | h
    · exact Int.mul_nonneg h h
    · exact Int.mul_nonneg_of_nonpos_of_nonpos h h
  have key : (t * q) * (t * q) - (r * p) * (r * p) = (t * t - 2 * (r * r)) * (q * q) - r * r := by
    have e2 : (r * p) * (r * p) = r * r * (2 * (q * q) + 1) := by rw [← e]; grind
    rw [e2]
    grind
  have qq : 0 < q * q := Int.mul_pos hq hq
  unfold sg2
  by_cases c0 : t = 0 ∧ r = 0
  · obtain ⟨rfl, rfl⟩ := c0
    simp
  rw [if_neg c0]
  by_cases c1 : 0 ≤ t ∧ 0 ≤ r
  · rw [if_pos c1]
    have a1 : 0 ≤ t * q := Int.mul_nonneg c1.1 (by omega)
    have a2 : 0 ≤ r * p := Int.mul_nonneg c1.2 (by omega)
    have a3 : 0 < t * q + r * p := by
      rcases (show 0 < t ∨ 0 < r by omega) with z | z
      · have := Int.mul_pos z hq
        omega
      · have := Int.mul_pos z hp
        omega
    exact ⟨fun _ => rfl, fun z => by omega, fun z => by omega⟩
  rw [if_neg c1]
  by_cases c2 : t ≤ 0 ∧ r ≤ 0
  · rw [if_pos c2]
    have a1 : 0 ≤ -t * q := Int.mul_nonneg (by omega) (by omega)
    have a2 : 0 ≤ -r * p := Int.mul_nonneg (by omega) (by omega)
    have a3 : 0 < -t * q + -r * p := by
      rcases (show 0 < -t ∨ 0 < -r by omega) with z | z
      · have := Int.mul_pos z hq
        omega
      · have := Int.mul_pos z hp
        omega
    rw [Int.neg_mul] at a1 a3
    rw [Int.neg_mul] at a2 a3
    exact ⟨fun z => by omega, fun _ => rfl, fun z => by omega⟩
  rw [if_neg c2]
  have a5 : 2 * r * r = 2 * (r * r) := Int.mul_assoc _ _ _
  by_cases c3 : t * t > 2 * r * r
  · rw [if_pos c3]
    have b1 : q * q ≤ (t * t - 2 * (r * r)) * (q * q) := by
      have := Int.mul_le_mul_of_nonneg_right (a := 1) (b := t * t - 2 * (r * r)) (c := q * q) (by omega) (by omega)
      omega
    by_cases c4 : 0 < t
    · rw [if_pos c4]
      have p1 : 0 < t * q := Int.mul_pos c4 hq
      have b2 : -(r * p) < t * q := sq_lt_of (by omega) (by rw [Int.neg_mul_neg]; omega)
      exact ⟨fun _ => rfl, fun z => by omega, fun z => by omega⟩
    · rw [if_neg c4]
      have p1 : 0 < -t * q := Int.mul_pos (by
        refine Int.not_le.mp fun z => ?_
        have : t = 0 := by omega
        subst this
        omega) hq
      have b2 : r * p < -t * q := sq_lt_of (by omega) (by rw [Int.neg_mul, Int.neg_mul_neg]; omega)
      rw [Int.neg_mul] at b2
      exact ⟨fun z => by omega, fun _ => rfl, fun z => by omega⟩
  · rw [if_neg c3]
    have d1 : t * t < 2 * (r * r) ∨ t * t = 2 * (r * r) := by omega
    have rn : r ≠ 0 := by
      intro z
      subst z
      simp only [Int.mul_zero] at d1
      rcases Int.lt_or_gt_of_ne (show t ≠ 0 from fun y => c0 ⟨y, rfl⟩) with z | z
      · have := Int.mul_pos_of_neg_of_neg z z
        omega
      · have := Int.mul_pos z z
        omega
    have b1 : (t * t - 2 * (r * r)) * (q * q) ≤ 0 := Int.mul_nonpos_of_nonpos_of_nonneg (by omega) (by omega)
    have rr : 0 < r * r := by
      rcases Int.lt_or_gt_of_ne rn with z | z
      · exact Int.mul_pos_of_neg_of_neg z z
      · exact Int.mul_pos z z
    by_cases c4 : 0 < r
    · rw [if_pos c4]
      have p1 : 0 < r * p := Int.mul_pos c4 hp
      have b2 : -(t * q) < r * p := sq_lt_of (by omega) (by rw [Int.neg_mul_neg]; omega)
      exact ⟨fun _ => rfl, fun z => by omega, fun z => by omega⟩
    · rw [if_neg c4]
      have p1 : 0 < -r * p := Int.mul_pos (by omega) hp
      have b2 : t * q < -r * p := sq_lt_of (by omega) (by rw [Int.neg_mul, Int.neg_mul_neg]; omega)
      rw [Int.neg_mul] at b2
      exact ⟨fun z => by omega, fun _ => rfl, fun z => by omega⟩
theorem sg2_pos {t r p q : Int} (h : Pell p q) (hr : (r.natAbs : Int) < q) : 0 < sg2 t r ↔ 0 < t * q + r * p := by
  obtain ⟨a, b, c⟩ := sg2_pell (t := t) h hr
  constructor
  · intro z
    rcases (show 0 < t * q + r * p ∨ t * q + r * p < 0 ∨ t * q + r * p = 0 by omega) with y | y | y
    · exact y
    · rw [b y] at z
      omega
    · obtain ⟨rfl, rfl⟩ := c y
      simp [sg2] at z
  · intro z
    rw [a z]
    decide
theorem nat_sqr2 : ∀ m n : Nat, m * m = 2 * (n * n) → n = 0 := by
  intro m
  induction m using Nat.strongRecOn with
  | ind m ih =>
    intro n h
    rcases Nat.eq_zero_or_pos n with h0 | h0
    · exact h0
    have hn : n < m := by
      rcases Nat.lt_or_ge n m with q | q
      · exact q
      · have := Nat.mul_le_mul q q
        have : 0 < n * n := Nat.mul_pos h0 h0
        omega
    have he : m % 2 = 0 := by
      rcases Nat.mod_two_eq_zero_or_one m with q | q
      · exact q
      · have : m * m % 2 = 1 := by rw [Nat.mul_mod, q]
        omega
    obtain ⟨k, rfl⟩ : ∃ k, m = 2 * k := ⟨m / 2, by omega⟩
    have h2 : n * n = 2 * (k * k) := by
      have : 2 * k * (2 * k) = 4 * (k * k) := by grind
      omega
    have hk := ih n hn k h2
    subst hk
    simp at h2
    rcases Nat.mul_eq_zero.mp h2 with q | q <;> exact q
/-- the square root of 2 is no fraction -/
theorem sqr2 {t r : Int} (h : t * t - 2 * r * r = 0) : t = 0 ∧ r = 0 := by
  have e : t.natAbs * t.natAbs = 2 * (r.natAbs * r.natAbs) := by
    have h1 : ((t.natAbs * t.natAbs : Nat) : Int) = t * t := Int.natAbs_mul_self
    have h2 : ((r.natAbs * r.natAbs : Nat) : Int) = r * r := Int.natAbs_mul_self
    have h3 : 2 * r * r = 2 * (r * r) := Int.mul_assoc ..
    omega
  have hr := nat_sqr2 _ _ e
  rw [hr] at e
  simp at e
  have h0 : t.natAbs = 0 := by rcases Nat.mul_eq_zero.mp e with q | q <;> exact q
  exact ⟨by omega, by omega⟩
/-! ### the window of a floor, told over the half of a common bottom -/
def wit (x y w o : Int) : Bool := decide (0 < sg2 (w - x) (o - y)) && decide (0 < sg2 (w + x) (o + y))
def winB (h a b c e : Int) : Bool := wit a b h h && (wit c e h h && (wit (a + c) (b + e) (2 * h) h && wit (a - c) (b - e) (2 * h) h))
/-- the window, linear -/
structure WinL (X Y U V : Int) : Prop where
  x1 : X < U + V
  x2 : -(U + V) < X
  y1 : Y < U + V
  y2 : -(U + V) < Y
  s1 : X + Y < 2 * U + V
  s2 : -(2 * U + V) < X + Y
  d1 : X - Y < 2 * U + V
  d2 : -(2 * U + V) < X - Y
theorem wit_pell {x y w o p q : Int} (P : Pell p q) (hr : (y.natAbs : Int) + o.natAbs < q) : wit x y w o = true ↔ x * q + y * p < w * q + o * p ∧ -(w * q + o * p) < x * q + y * p := by
  unfold wit
  rw [Bool.and_eq_true, decide_eq_true_eq, decide_eq_true_eq, sg2_pos P (by omega), sg2_pos P (by omega)]
  simp only [Int.sub_mul, Int.add_mul]
  constructor
  · intro h
    omega
  · intro h
    omega
theorem win_pell {h a b c e p q : Int} (P : Pell p q) (hr : (b.natAbs : Int) + e.natAbs + h.natAbs < q) : winB h a b c e = true ↔ WinL (a * q + b * p) (c * q + e * p) (h * q) (h * p) := by
  unfold winB
  rw [Bool.and_eq_true, Bool.and_eq_true, Bool.and_eq_true, wit_pell P (by omega), wit_pell P (by omega), wit_pell P (by omega), wit_pell P (by omega)]
  simp only [Int.sub_mul, Int.add_mul, Int.mul_assoc]
  constructor
  · rintro ⟨⟨h1, h2⟩, ⟨h3, h4⟩, ⟨h5, h6⟩, h7, h8⟩
    exact ⟨by omega, by omega, by omega, by omega, by omega, by omega, by omega, by omega⟩
  · rintro ⟨h1, h2, h3, h4, h5, h6, h7, h8⟩
    omega
/-- from each point of the window one of four steps stays in it -/
theorem win_side {h a b c e : Int} (hh : 0 < h) (w : winB h a b c e = true) : winB h (a + 2 * h) b c e = true ∨ winB h (a - 2 * h) b c e = true ∨ winB h a b (c + 2 * h) e = true ∨ winB h a b (c - 2 * h) e = true := by
  obtain ⟨p, q, P, far⟩ := pell_far (b.natAbs + e.natAbs + h.natAbs)
  rw [win_pell P (by omega)] at w
  rw [win_pell P (by omega), win_pell P (by omega), win_pell P (by omega), win_pell P (by omega)]
  have lo := P.lo
  have hi := P.hi
  have u1 : 0 < h * q := Int.mul_pos hh P.q
  have u2 : 0 < h * (5 * p - 7 * q) := Int.mul_pos hh (by omega)
  rw [Int.mul_sub, ← Int.mul_assoc, ← Int.mul_assoc, Int.mul_comm h 5, Int.mul_comm h 7, Int.mul_assoc, Int.mul_assoc] at u2
  simp only [Int.sub_mul, Int.add_mul, Int.mul_assoc]
  obtain ⟨h1, h2, h3, h4, h5, h6, h7, h8⟩ := w
  by_cases k1 : c * q + e * p ≤ a * q + b * p
  · by_cases k2 : -(c * q + e * p) ≤ a * q + b * p
    · exact .inr (.inl ⟨by omega, by omega, by omega, by omega, by omega, by omega, by omega, by omega⟩)
    · exact .inr (.inr (.inl ⟨by omega, by omega, by omega, by omega, by omega, by omega, by omega, by omega⟩))
  · by_cases k2 : -(c * q + e * p) ≤ a * q + b * p
    · exact .inr (.inr (.inr ⟨by omega, by omega, by omega, by omega, by omega, by omega, by omega, by omega⟩))
    · exact .inl ⟨by omega, by omega, by omega, by omega, by omega, by omega, by omega, by omega⟩
/-! ### three directions one behind the other: one of them is a side -/
section
variable {X Y U V : Int}
theorem WinL.out (n : ¬ WinL X Y U V) : U + V ≤ X ∨ X ≤ -(U + V) ∨ U + V ≤ Y ∨ Y ≤ -(U + V) ∨ 2 * U + V ≤ X + Y ∨ X + Y ≤ -(2 * U + V) ∨ 2 * U + V ≤ X - Y ∨ X - Y ≤ -(2 * U + V) := by
  refine Classical.byContradiction fun h => n ?_
  exact ⟨by omega, by omega, by omega, by omega, by omega, by omega, by omega, by omega⟩
theorem WinL.out0 (w : WinL X Y U V) (u : 0 < U) (v : 0 < V) (n : ¬ WinL (X + 2 * U) Y U V) : U + V ≤ X + 2 * U ∨ 2 * U + V ≤ X + 2 * U + Y ∨ 2 * U + V ≤ X + 2 * U - Y := by
  obtain ⟨h1, h2, h3, h4, h5, h6, h7, h8⟩ := w
  have := WinL.out n
  omega
theorem WinL.out1 (w : WinL X Y U V) (u : 0 < U) (v : 0 < V) (n : ¬ WinL (X - V) (Y + V) U V) : X - V ≤ -(U + V) ∨ U + V ≤ Y + V ∨ X - Y - 2 * V ≤ -(2 * U + V) := by
  obtain ⟨h1, h2, h3, h4, h5, h6, h7, h8⟩ := w
  have := WinL.out n
  omega
theorem WinL.out2 (w : WinL X Y U V) (u : 0 < U) (v : 0 < V) (n : ¬ WinL X (Y - 2 * U) U V) : Y - 2 * U ≤ -(U + V) ∨ X + Y - 2 * U ≤ -(2 * U + V) ∨ 2 * U + V ≤ X - Y + 2 * U := by
  obtain ⟨h1, h2, h3, h4, h5, h6, h7, h8⟩ := w
  have := WinL.out n
  omega
theorem WinL.out3 (w : WinL X Y U V) (u : 0 < U) (v : 0 < V) (n : ¬ WinL (X + V) (Y + V) U V) : U + V ≤ X + V ∨ U + V ≤ Y + V ∨ 2 * U + V ≤ X + Y + 2 * V := by
  obtain ⟨h1, h2, h3, h4, h5, h6, h7, h8⟩ := w
  have := WinL.out n
  omega
theorem WinL.out4 (w : WinL X Y U V) (u : 0 < U) (v : 0 < V) (n : ¬ WinL (X - 2 * U) Y U V) : X - 2 * U ≤ -(U + V) ∨ X - 2 * U + Y ≤ -(2 * U + V) ∨ X - 2 * U - Y ≤ -(2 * U + V) := by
  obtain ⟨h1, h2, h3, h4, h5, h6, h7, h8⟩ := w
  have := WinL.out n
  omega
theorem WinL.out5 (w : WinL X Y U V) (u : 0 < U) (v : 0 < V) (n : ¬ WinL (X + V) (Y - V) U V) : U + V ≤ X + V ∨ Y - V ≤ -(U + V) ∨ 2 * U + V ≤ X - Y + 2 * V := by
  obtain ⟨h1, h2, h3, h4, h5, h6, h7, h8⟩ := w
  have := WinL.out n
  omega
theorem WinL.out6 (w : WinL X Y U V) (u : 0 < U) (v : 0 < V) (n : ¬ WinL X (Y + 2 * U) U V) : U + V ≤ Y + 2 * U ∨ 2 * U + V ≤ X + Y + 2 * U ∨ X - Y - 2 * U ≤ -(2 * U + V) := by
  obtain ⟨h1, h2, h3, h4, h5, h6, h7, h8⟩ := w
  have := WinL.out n
  omega
theorem WinL.out7 (w : WinL X Y U V) (u : 0 < U) (v : 0 < V) (n : ¬ WinL (X - V) (Y - V) U V) : X - V ≤ -(U + V) ∨ Y - V ≤ -(U + V) ∨ X + Y - 2 * V ≤ -(2 * U + V) := by
  obtain ⟨h1, h2, h3, h4, h5, h6, h7, h8⟩ := w
  have := WinL.out n
  omega
theorem WinL.gap0 (w : WinL X Y U V) (u : 0 < U) (lo : 7 * U < 5 * V) (hi : 2 * V ≤ 3 * U) : WinL (X + 2 * U) Y U V ∨ WinL (X - V) (Y + V) U V ∨ WinL X (Y - 2 * U) U V := by
  refine Classical.byContradiction fun h => ?_
  have a := w.out0 u (by omega) fun z => h (.inl z)
  have b := w.out1 u (by omega) fun z => h (.inr (.inl z))
  have c := w.out2 u (by omega) fun z => h (.inr (.inr z))
  obtain ⟨h1, h2, h3, h4, h5, h6, h7, h8⟩ := w
  omega
theorem WinL.gap1 (w : WinL X Y U V) (u : 0 < U) (lo : 7 * U < 5 * V) (hi : 2 * V ≤ 3 * U) : WinL (X - V) (Y + V) U V ∨ WinL X (Y - 2 * U) U V ∨ WinL (X + V) (Y + V) U V := by
  refine Classical.byContradiction fun h => ?_
  have a := w.out1 u (by omega) fun z => h (.inl z)
  have b := w.out2 u (by omega) fun z => h (.inr (.inl z))
  have c := w.out3 u (by omega) fun z => h (.inr (.inr z))
  obtain ⟨h1, h2, h3, h4, h5, h6, h7, h8⟩ := w
  omega
theorem WinL.gap2 (w : WinL X Y U V) (u : 0 < U) (lo : 7 * U < 5 * V) (hi : 2 * V ≤ 3 * U) : WinL X (Y - 2 * U) U V ∨ WinL (X + V) (Y + V) U V ∨ WinL (X - 2 * U) Y U V := by
  refine Classical.byContradiction fun h => ?_
  have a := w.out2 u (by omega) fun z => h (.inl z)
  have b := w.out3 u (by omega) fun z => h (.inr (.inl z))
  have c := w.out4 u (by omega) fun z => h (.inr (.inr z))
  obtain ⟨h1, h2, h3, h4, h5, h6, h7, h8⟩ := w
  omega
theorem WinL.gap3 (w : WinL X Y U V) (u : 0 < U) (lo : 7 * U < 5 * V) (hi : 2 * V ≤ 3 * U) : WinL (X + V) (Y + V) U V ∨ WinL (X - 2 * U) Y U V ∨ WinL (X + V) (Y - V) U V := by
  refine Classical.byContradiction fun h => ?_
  have a := w.out3 u (by omega) fun z => h (.inl z)
  have b := w.out4 u (by omega) fun z => h (.inr (.inl z))
  have c := w.out5 u (by omega) fun z => h (.inr (.inr z))
  obtain ⟨h1, h2, h3, h4, h5, h6, h7, h8⟩ := w
  omega
theorem WinL.gap4 (w : WinL X Y U V) (u : 0 < U) (lo : 7 * U < 5 * V) (hi : 2 * V ≤ 3 * U) : WinL (X - 2 * U) Y U V ∨ WinL (X + V) (Y - V) U V ∨ WinL X (Y + 2 * U) U V := by
  refine Classical.byContradiction fun h => ?_
  have a := w.out4 u (by omega) fun z => h (.inl z)
  have b := w.out5 u (by omega) fun z => h (.inr (.inl z))
  have c := w.out6 u (by omega) fun z => h (.inr (.inr z))
  obtain ⟨h1, h2, h3, h4, h5, h6, h7, h8⟩ := w
  omega
theorem WinL.gap5 (w : WinL X Y U V) (u : 0 < U) (lo : 7 * U < 5 * V) (hi : 2 * V ≤ 3 * U) : WinL (X + V) (Y - V) U V ∨ WinL X (Y + 2 * U) U V ∨ WinL (X - V) (Y - V) U V := by
  refine Classical.byContradiction fun h => ?_
  have a := w.out5 u (by omega) fun z => h (.inl z)
  have b := w.out6 u (by omega) fun z => h (.inr (.inl z))
  have c := w.out7 u (by omega) fun z => h (.inr (.inr z))
  obtain ⟨h1, h2, h3, h4, h5, h6, h7, h8⟩ := w
  omega
theorem WinL.gap6 (w : WinL X Y U V) (u : 0 < U) (lo : 7 * U < 5 * V) (hi : 2 * V ≤ 3 * U) : WinL X (Y + 2 * U) U V ∨ WinL (X - V) (Y - V) U V ∨ WinL (X + 2 * U) Y U V := by
  refine Classical.byContradiction fun h => ?_
  have a := w.out6 u (by omega) fun z => h (.inl z)
  have b := w.out7 u (by omega) fun z => h (.inr (.inl z))
  have c := w.out0 u (by omega) fun z => h (.inr (.inr z))
  obtain ⟨h1, h2, h3, h4, h5, h6, h7, h8⟩ := w
  omega
theorem WinL.gap7 (w : WinL X Y U V) (u : 0 < U) (lo : 7 * U < 5 * V) (hi : 2 * V ≤ 3 * U) : WinL (X - V) (Y - V) U V ∨ WinL (X + 2 * U) Y U V ∨ WinL (X - V) (Y + V) U V := by
  refine Classical.byContradiction fun h => ?_
  have a := w.out7 u (by omega) fun z => h (.inl z)
  have b := w.out0 u (by omega) fun z => h (.inr (.inl z))
  have c := w.out1 u (by omega) fun z => h (.inr (.inr z))
  obtain ⟨h1, h2, h3, h4, h5, h6, h7, h8⟩ := w
  omega
end
end L2.My

/-! W15: a op1 b op2 c op3 d. -/
namespace L2.My
open PySem PySem.Spec PyProof.Rows
section
variable {X : Cx} {a b c d : Expr} {ta tb tc td : TE} {pos : Pos}
/-- a op1 b op2 c op3 d -/
def tChain3 (r r' r'' : R2) (ta tb tc td : TE) : TE := fun σ H Q => ta σ H fun x H1 => tb σ H1 fun y H2 => r x y H2 fun z H3 => ∃ k, z = .bl k ∧
  (if k = true then tc σ H3 fun w' H4 => r' y w' H4 fun z2 H5 => ∃ k2, z2 = .bl k2 ∧ (if k2 = true then td σ H5 fun w'' H6 => r'' w' w'' H6 Q else Q (.bl false) H5) else Q (.bl false) H3)
theorem w_chain3 {r r' r'' : R2} {σ : L2.St} {H : Hp} {Q : VK} (q : ta σ H fun x H1 => tb σ H1 fun y H2 => r x y H2 fun z H3 => ∃ k, z = .bl k ∧
  (if k = true then tc σ H3 fun w' H4 => r' y w' H4 fun z2 H5 => ∃ k2, z2 = .bl k2 ∧ (if k2 = true then td σ H5 fun w'' H6 => r'' w' w'' H6 Q else Q (.bl false) H5) else Q (.bl false) H3)) : tChain3 r r' r'' ta tb tc td σ H Q := q
theorem pe_chain3 {op op' op'' : CmpOp} {r r' r'' : R2} (ho : OpR X (compareOp op) r) (ho' : OpR X (compareOp op') r') (ho'' : OpR X (compareOp op'') r'') (ha : PE X a ta) (hb : PE X b tb) (hc : PE X c tc) (hd : PE X d td)
    (hm : lastMarks [op, op', op''] [b, c, d] = false := by with_unfolding_all rfl) : PE X (.Compare a [op, op', op''] [b, c, d] pos) (tChain3 r r' r'' ta tb tc td) := by
  refine ⟨fun pins s σ H Q I h => ?_⟩
  refine Compare_chain (thn (ha.run pins s σ H _ I h) fun v s1 ⟨x, H1, I1, r1, q1⟩ => chain_link (thn (hb.run pins s1 σ H1 _ I1 q1) fun u s2 ⟨y, H2, I2, r2, q2⟩ =>
    thn (ho pins s2 σ H2 x y v u _ I2 r1 r2 q2) fun d s3 ⟨z, H3, I3, r3, k, e, q3⟩ => ?_)) hm
  subst e
  cases r3
  refine wpAny_truthy_bool ?_
  cases k with
  | false => exact ite_ff ⟨.bl false, H3, I3, rfl, q3⟩
  | true =>
    refine ite_tt (chain_link (thn (hc.run pins s3 σ H3 _ I3 q3) fun w1 s4 ⟨y2, H4, I4, r4, q4⟩ => thn (ho' pins s4 σ H4 y y2 u w1 _ I4 r2 r4 q4) fun d2 s5 ⟨z2, H5, I5, r5, k2, e2, q5⟩ => ?_))
    subst e2
    cases r5
    refine wpAny_truthy_bool ?_
    cases k2 with
    | false => exact ite_ff ⟨.bl false, H5, I5, rfl, q5⟩
    | true => exact ite_tt (chain_last (thn (hd.run pins s5 σ H5 _ I5 q5) fun w2 s6 ⟨y3, H6, I6, r6, q6⟩ => ho'' pins s6 σ H6 y2 y3 w1 w2 Q I6 r4 r6 q6))
end
/-! ### rules with the fragment told: a comprehension's context bears its own variables -/
theorem sl_tupZ {X : Cx} {K : PySem.W.Frag} (h : X.K = K) : SlR X (rSlA K) := by
  subst h
  exact sl_tupA
theorem op_catZ {X : Cx} {K : PySem.W.Frag} (h : X.K = K) : OpR X (binaryOp .Add) (rCatA K) := by
  subst h
  exact op_catA
theorem room65 {k : Nat} {A : Around} (r : Room k A) : A.units + 65 < cLine := by
  have := r.un
  omega
/-! ### walks over a list or a tuple -/
section
variable {X : Cx} {tg l : Expr} {w w' : TI} {tl : TE} {g : TG} {tb : TS} {D : Ends} {tt : TT} {te : TE} {ws : List Nat} {σ : L2.St} {H : Hp} {Q : VK}
def iOr (w w' : TI) : TI := fun σ H R => w σ H R ∨ w' σ H R
theorem PI.or (h : PI X tg l w) (h' : PI X tg l w') : PI X tg l (iOr w w') := ⟨fun pins s σ H R I q => q.elim (h.run pins s σ H R I) (h'.run pins s σ H R I)⟩
theorem pi_seq (hl : PE X l tl) : PI X tg l (iOr (iList X.K tl) (iTup X.K tl)) := PI.or (pi_list hl) (pi_tup hl)
theorem w_forOL (q : tFor w g tb D σ H) : tFor (iOr w w') g tb D σ H := .inl q
theorem w_forOT (q : tFor w' g tb D σ H) : tFor (iOr w w') g tb D σ H := .inr q
theorem w_lcOL (q : tLc w g tt te ws σ H Q) : tLc (iOr w w') g tt te ws σ H Q := .inl q
theorem w_lcOT (q : tLc w' g tt te ws σ H Q) : tLc (iOr w w') g tt te ws σ H Q := .inr q
end
end L2.My

/-! W16: fields in a comprehension. -/
namespace L2.My
open PySem PySem.Spec PyProof.Rows
section
variable {X : Cx} {e : Expr} {ta : TE} {pos : Pos} {f : Str} {K : PySem.W.Frag}
theorem pe_fldZ (h : X.K = K) (he : PE X e ta) (hb : attributeBase e f X.env (eval e X.env) = eval e X.env) : PE X (.Attribute e f pos) (tFld K ta f) := h ▸ pe_fld he hb
end
end L2.My

/-! W17: sorted of a list of data. -/
namespace L2.My
open PySem PySem.Spec PyProof.Rows
section
variable {X : Cx}
theorem each_rel {H : Hp} {pins : List (Addr × Obj)} {σ : St} {s : Shared} (I : Inv X pins σ H s) : ∀ {xs : List V} {ds : List PyData} {us : List Value}, Vals xs us → DpAll X.K H xs ds → PySem.W.EachIs (fun u (b : V × PyData) => RelV b.1 u ∧ ∃ as, Reads s.heap u b.2 as) us (xs.zip ds)
  | [], _, _, r, h => by
    cases h
    cases r
    exact .nil
  | x :: xs, _, _, r, h => by
    cases h with
    | cons hd ht =>
      cases r with
      | cons r1 rt => exact .cons ⟨r1, Dp.reads I _ _ _ hd r1⟩ (each_rel I rt ht)
theorem rel_each : ∀ {bs : List (V × PyData)} {us : List Value}, PySem.W.EachIs (fun u (b : V × PyData) => RelV b.1 u) us bs → Vals (bs.map Prod.fst) us
  | [], _, h => by
    cases h
    exact .nil
  | b :: bs, _, h => by
    cases h with
    | cons h1 ht => exact .cons h1 (rel_each ht)
theorem dp_len {K : PySem.W.Frag} {H : Hp} : ∀ {xs : List V} {ds : List PyData}, DpAll K H xs ds → xs.length = ds.length
  | [], _, h => by cases h; rfl
  | _ :: _, _, h => by
    cases h with
    | cons _ t => exact congrArg (· + 1) (dp_len t)
theorem zip_snd : ∀ {xs : List V} {ds : List PyData}, xs.length = ds.length → (xs.zip ds).map Prod.snd = ds
  | [], [], _ => rfl
  | x :: xs, d :: ds, h => by
    rw [List.zip_cons_cons, List.map_cons, zip_snd (Nat.succ.inj h)]
/-- the values xs, which read as ds, in order -/
def srtD (xs : List V) (ds : List PyData) : List (V × PyData) := (xs.zip ds).mergeSort (PySem.W.dataLe false Prod.snd)
def rSortedD (K : PySem.W.Frag) : List V → Hp → VK → Prop := fun vs H Q => ∃ a xs ds, vs = [.ref a] ∧ SqL K H a xs ∧ DpAll K H xs ds ∧ PySem.W.AllAlike ds ∧ PySem.W.Sortable ds ∧ (∀ d ∈ ds, d.depth ≤ 20) ∧
  ∀ p, H p = none → Q (.ref p) (upd H p (.lst ((srtD xs ds).map Prod.fst)))
theorem cr_sortedD (hu : X.A.units + 64 < cLine) : CallR X (.builtin "sorted") (rSortedD X.K) := by
  intro pins s σ H vs us Q I r h
  obtain ⟨a, xs, ds, rfl, hs, hd, al, so, hde, q⟩ := h
  obtain ⟨its, rv, hl, hz⟩ := I.list hs
  rw [Vals.ref1 r]
  have e := each_rel I rv hd
  have hzs := zip_snd (dp_len hd)
  have hlz : (xs.zip ds).length = xs.length := by rw [List.length_zip, ← dp_len hd, Nat.min_self]
  refine PySem.W.sorted_data (R := fun u (b : V × PyData) => RelV b.1 u) (bs := xs.zip ds) (enc := Prod.snd) hl.isList (e.mono fun _ _ h => h.1) (e.mono fun _ _ h => h.2) (by rw [hzs]; exact al) (by rw [hzs]; exact so) (by rw [hlz]; exact hz) (fun b hb => ?_) fun out ho hout => ?_
  · have : b.2 ∈ ds := by
      rw [← hzs]
      exact List.mem_map.mpr ⟨b, hb, rfl⟩
    have := hde _ this
    omega
  · obtain ⟨ep, he'⟩ := PyProof.Rows.sortedAll_at s.heap its out.toArray
    have hv := rel_each hout
    have hlen : ((srtD xs ds).map Prod.fst).length ≤ sizeLine := by
      rw [List.length_map]
      unfold srtD
      rw [List.length_mergeSort, hlz]
      exact hz
    exact ⟨.ref _, upd H (s.heap.objs.size + 1) (.lst ((srtD xs ds).map Prod.fst)), I.laid (t' := s.toks) (fun _ _ => PyProof.Rows.sortedAll_old) (Nat.le_succ _) ⟨hlen, out, ep, hv, he'⟩, rfl, q _ (I.hok.fresh (Nat.le_succ _))⟩
end
/-- the order of data: a value with what it reads as -/
theorem srtD_perm {xs : List V} {ds : List PyData} : (srtD xs ds).Perm (xs.zip ds) := List.mergeSort_perm _ _
end L2.My

/-! W18: a dict display of one pair, its key a tuple of ints and texts. -/
namespace L2.My
open PySem PySem.Spec PyProof.Rows
section
variable {X : Cx} {k v : Expr} {tk tv : TE} {pos : Pos}
def tDispT (tk tv : TE) : TE := fun σ H Q => ∀ p, H p = none → tk σ (upd H p (.dT [])) fun x H1 => tv σ H1 fun y H2 => H2 p = some (.dT []) ∧ ∃ (b : Addr) (kk : List L2.Key), x = .ref b ∧ H2 b = some (.tup (kk.map kV)) ∧ Q (.ref p) (upd H2 p (.dT [(kk, y)]))
theorem w_dispT {σ : L2.St} {H : Hp} {Q : VK} (q : ∀ p, H p = none → tk σ (upd H p (.dT [])) fun x H1 => tv σ H1 fun y H2 => H2 p = some (.dT []) ∧ ∃ (b : Addr) (kk : List L2.Key), x = .ref b ∧ H2 b = some (.tup (kk.map kV)) ∧ Q (.ref p) (upd H2 p (.dT [(kk, y)]))) : tDispT tk tv σ H Q := q
theorem pe_dispT (hu : X.A.units + 64 < cLine) (hk : PE X k tk) (hv : PE X v tv) : PE X (.Dict [some k] [v] pos) (tDispT tk tv) := by
  refine ⟨fun pins s σ H Q I q => ?_⟩
  have hn := I.hok.fresh (Nat.le_refl s.heap.objs.size)
  have I1 := I.laid (a := s.heap.objs.size) (o := .dT []) (h' := s.heap.push { cls := .type "dict", data := .dict #[] }) (t' := s.toks) (fun _ _ q => Heap.get?_push_of_some _ q) (Nat.le_refl _) (dt_empty s.heap I.big)
  have hl := pairTrees_length [some k] [v] X.env pos rfl rfl
  have hl1 : (pairTrees [some k] [v] X.env pos).length = 1 := hl
  rw [arm_eval_Dict, zip_pairTrees [some k] [v] X.env pos rfl rfl, dictDisplay_pairs _ (by intro e; rw [e] at hl1; cases hl1) (by omega)]
  refine wpAny_bind (wpAny_standAt (wpAny_bind (wpAny_subDictH (knd := tupleKind (mixKind X.prog X.w)) (show X.A.units < cLine by omega) (by omega) ?_)))
  refine pairTrees_cons_walk (thn (hk.run pins _ σ _ _ I1 (q _ hn)) fun u s1 ⟨x, H1, I1, rx, q1⟩ => thn (hv.run pins s1 σ H1 _ I1 q1) fun w2 s2 ⟨y, H2, I2, ry, e, b, kk, ex, eb, q2⟩ => pairTrees_nil_walk ?_)
  subst ex
  cases (show u = Value.ref b from rx)
  obtain ⟨z, hd, xs, rel, dd⟩ := dt_of I2.hok e
  cases rel
  refine ⟨[(kk, b, w2)], ⟨rfl, rfl, key_of I2.hok eb, trivial⟩, dd, fun h' tk' dd' hs => wpAny_pure ?_⟩
  obtain ⟨q', es, ep, hq, h2, h3, h4, _, h5⟩ := dd'
  have hz : [(kk, y)].length ≤ sizeLine := by
    rw [sizeLine_eq]
    exact Nat.le_of_ble_eq_true rfl
  have rel0 : KT H2 [] [] := .nil
  refine ⟨.ref s.heap.objs.size, upd H2 s.heap.objs.size (.dT [(kk, y)]), d_write I2 (by rw [e]; exact True.intro) hs ⟨q', hq⟩ ⟨hz, hd, _, (rel0.put kk eb ry).keeps fun c ys ec => ?_, q', es, ep, hq, h2, h3, h4, h5⟩, rfl, q2⟩
  rw [upd_ne (ne_of ec e (fun z => nomatch z))]
  exact ec
end
end L2.My

/-! W19: steps for dicts with tuple keys; lists sorted by data; few numbers below a bound. -/
namespace L2.My
open PySem PySem.Spec PyProof.Rows
def DninP (x y : V) (H : Hp) (Q : VK) : Prop := ∃ a o, x = .ref a ∧ DGet H a y o ∧ Q (.bl (!o.isSome)) H
theorem w_dnin {ty td : TE} {σ : L2.St} {H : Hp} {Q : VK} (q : ty σ H fun y H1 => td σ H1 fun x H2 => DninP x y H2 Q) : tDNotIn ty td σ H Q := q
theorem k_dninT {a b : Addr} {kvs : List (List L2.Key × V)} {k : List L2.Key} {H : Hp} {Q : VK} (h : H a = some (.dT kvs)) (hb : H b = some (.tup (k.map kV))) (q : Q (.bl (!(valV kvs k).isSome)) H) : DninP (.ref a) (.ref b) H Q := ⟨a, _, rfl, DGet.t h hb, q⟩
def DputP (x y v : V) (H : Hp) (N : Hp → Prop) : Prop := ∃ a H4, x = .ref a ∧ DPut H a y v H4 ∧ N H4
theorem w_dput {td ty tv : TE} {nx bk ct : L2.St → Hp → Prop} {rt : VK} {σ : L2.St} {H : Hp} (q : tv σ H fun v H1 => td σ H1 fun x H2 => ty σ H2 fun y H3 => DputP x y v H3 (nx σ)) : sDPut td ty tv ⟨nx, rt, bk, ct⟩ σ H := q
theorem k_dputT {a b : Addr} {kvs : List (List L2.Key × V)} {k : List L2.Key} {v : V} {H : Hp} {N : Hp → Prop} (h : H a = some (.dT kvs)) (hb : H b = some (.tup (k.map kV))) (hl : kvs.length < sizeLine) (q : N (upd H a (.dT (putK kvs k v)))) : DputP (.ref a) (.ref b) v H N := ⟨a, _, rfl, DPut.t h hb hl, q⟩
/-- all but tracked lists and dicts with tuple keys stays -/
def Kpt (H H' : Hp) : Prop := ∀ b o, (∀ xs, o ≠ .lst xs) → (∀ ks, o ≠ .dT ks) → H b = some o → H' b = some o
theorem Kpt.refl (H : Hp) : Kpt H H := fun _ _ _ _ h => h
theorem Kpt.trans {A B C : Hp} (h : Kpt A B) (k : Kpt B C) : Kpt A C := fun b o n m e => k b o n m (h b o n m e)
theorem Kpt.same {A B : Hp} (h : Same A B) : Kpt A B := fun b o _ _ e => h b o e
theorem Kpt.kps {A B : Hp} (h : Kps A B) : Kpt A B := fun b o n _ e => h b o n e
theorem Kpt.tup {A B : Hp} (h : Kpt A B) {a : Addr} {xs : List V} (e : A a = some (.tup xs)) : B a = some (.tup xs) := h _ _ (by intro xs z; cases z) (by intro xs z; cases z) e
theorem Kpt.updL {A : Hp} {p : Addr} {xs : List V} {o : HO} (h : A p = some (.lst xs)) : Kpt A (upd A p o) := fun b o' n _ e => by rw [upd_ne (fun z => by rw [z, h] at e; cases e; exact n _ rfl)]; exact e
theorem Kpt.updD {A : Hp} {p : Addr} {ks : List (List L2.Key × V)} {o : HO} (h : A p = some (.dT ks)) : Kpt A (upd A p o) := fun b o' _ m e => by rw [upd_ne (fun z => by rw [z, h] at e; cases e; exact m _ rfl)]; exact e
/-- unlike numbers below a bound are few -/
theorem nodup_lt : ∀ (n : Nat) (l : List Nat), l.Nodup → (∀ x ∈ l, x < n) → l.length ≤ n
  | 0, l, _, h => by
    cases l with
    | nil => exact Nat.le_refl _
    | cons x l => exact absurd (h x (by simp)) (by omega)
  | n + 1, l, d, h => by
    by_cases m : n ∈ l
    · have := nodup_lt n (l.erase n) (d.erase _) fun x hx => by
        have h1 := (d.mem_erase_iff).mp hx
        have := h x h1.2
        have h2 := h1.1
        omega
      rw [List.length_erase_of_mem m] at this
      omega
    · have := nodup_lt n l d fun x hx => by
        have h1 := h x hx
        have : x ≠ n := fun z => m (z ▸ hx)
        omega
      omega
/-- a row of unlike things that a number below a bound tells apart is short -/
theorem nodup_few {α : Type} {l : List α} {n : Nat} (f : α → Nat) (d : l.Nodup) (h : ∀ x ∈ l, f x < n) (inj : ∀ x ∈ l, ∀ y ∈ l, f x = f y → x = y) : l.length ≤ n := by
  have := nodup_lt n (l.map f) ?_ ?_
  · rwa [List.length_map] at this
  · exact (List.pairwise_map).mpr (d.imp_of_mem fun hx hy n z => n (inj _ hx _ hy z))
  · intro x hx
    obtain ⟨y, hy, rfl⟩ := List.mem_map.mp hx
    exact h y hy
end L2.My

/-! W20: t.index(x) of a tuple of ints. -/
namespace L2.My
open PySem PySem.Spec PyProof.Rows
theorem flat_intsW (ys : List Int) : (ys.map V.int).all flatV = true := by
  rw [List.all_map]
  exact List.all_eq_true.mpr fun _ _ => rfl
section
variable {X : Cx}
def rTupIx (K : PySem.W.Frag) : V → List V → Hp → VK → Prop := fun x xs H Q => ∃ (p : Addr) (ys : List Int) (z : Int) (j : Nat), x = .ref p ∧ xs = [.int z] ∧ SqT K H p (ys.map V.int) ∧ ys[j]? = some z ∧ (∀ m, m < j → ys[m]? ≠ some z) ∧ Q (.int (j : Nat)) H
theorem mt_tupIx : MtR X "tuple.index" (rTupIx X.K) := by
  intro pins s σ H x xs v us Q I rx rs h
  obtain ⟨p, ys, z, j, rfl, rfl, hq, hy, hno, q⟩ := h
  cases rx
  obtain ⟨u, rfl, t, rfl⟩ := vals1 rs
  obtain ⟨its, r, pl, hz⟩ := I.tuple hq
  obtain ⟨⟨cls, dd, dt, sl⟩, ho, hc, n, hd⟩ := pl
  simp only at hc hd
  subst hc
  subst hd
  have hl : its.toArray.size = ys.length := by rw [List.size_toArray, ← r.length, List.length_map]
  have hj : j < its.toArray.size := by rw [hl]; exact (List.getElem?_eq_some_iff.mp hy).1
  have at' : ∀ (m : Nat) (hm : m < its.toArray.size), ∃ y t', ys[m]? = some y ∧ its.toArray[m] = Value.int y t' := fun m hm => by
    have hm' : m < ys.length := by rw [← hl]; exact hm
    obtain ⟨w, hw, t', hw'⟩ := r.get (i := m) (x := .int ys[m]) (by simp [hm'])
    refine ⟨ys[m], t', List.getElem?_eq_getElem hm', ?_⟩
    have e := (List.getElem?_eq_some_iff.mp hw).2
    rw [← hw', ← e]
    simp
  refine call_meets PySem.F.slot_tuple_index ⟨_, ho, rfl⟩ PySem.F.entry_tuple_index (PySem.F.args_tuple_index_2 _ _) (TI.tuple_indexAt p its.toArray n dd sl (.int z t) (eqU (.int z)) j hj ?_ ?_)
    ⟨ho, fun w hw => mem_eqAt (x := .int z) ⟨t, rfl⟩ rfl r (flat_intsW ys) w (by simpa using hw), ⟨.int (j : Nat), H, I.tok _, ⟨_, rfl⟩, q⟩⟩
  · obtain ⟨y, t', h1, h2⟩ := at' j hj
    rw [hy] at h1
    cases h1
    rw [h2]
    show (z == z) = true
    exact beq_self_eq_true z
  · intro m hm hmj
    obtain ⟨y, t', h1, h2⟩ := at' m hm
    rw [h2]
    show (y == z) = false
    exact beq_eq_false_iff_ne.mpr fun e => hno m hmj (e ▸ h1)
end
end L2.My

/-! W21: the tiles about a corner close, and lie between sides one behind the other (the window's numbers, linear). -/
namespace L2.My
/-- the direction d among the eight, in the window's numbers -/
def gX (U V X : Int) (d : Nat) : Int := match d with
  | 0 => X + 2 * U | 1 => X - V | 2 => X | 3 => X + V | 4 => X - 2 * U | 5 => X + V | 6 => X | _ => X - V
def gY (U V Y : Int) (d : Nat) : Int := match d with
  | 0 => Y | 1 => Y + V | 2 => Y - 2 * U | 3 => Y + V | 4 => Y | 5 => Y - V | 6 => Y + 2 * U | _ => Y - V
/-- the corner, the next ones, and the one that comes by both -/
def clo1 (X Y U V : Int) (d e : Nat) : Prop := WinL X Y U V → WinL (gX U V X d) (gY U V Y d) U V → WinL (gX U V X e) (gY U V Y e) U V → WinL (gX U V (gX U V X d) e) (gY U V (gY U V Y d) e) U V
theorem clo_one {X Y U V : Int} (u : 0 < U) (lo : 7 * U < 5 * V) (hi : 2 * V ≤ 3 * U) : ∀ d, d < 8 → clo1 X Y U V d ((d + 1) % 8) := by
  intro d hd h0 h1 h2
  have cs : d = 0 ∨ d = 1 ∨ d = 2 ∨ d = 3 ∨ d = 4 ∨ d = 5 ∨ d = 6 ∨ d = 7 := by omega
  rcases cs with rfl | rfl | rfl | rfl | rfl | rfl | rfl | rfl
  all_goals
    obtain ⟨a1, a2, a3, a4, a5, a6, a7, a8⟩ := h0
    obtain ⟨b1, b2, b3, b4, b5, b6, b7, b8⟩ := h1
    obtain ⟨c1, c2, c3, c4, c5, c6, c7, c8⟩ := h2
    simp only [gX, gY, Nat.reduceAdd, Nat.reduceMod] at *
    constructor <;> omega
/-- not on the rim -/
structure Off (X Y U V : Int) : Prop where
  x1 : X ≠ U + V
  x2 : X ≠ -(U + V)
  y1 : Y ≠ U + V
  y2 : Y ≠ -(U + V)
  s1 : X + Y ≠ 2 * U + V
  s2 : X + Y ≠ -(2 * U + V)
  d1 : X - Y ≠ 2 * U + V
  d2 : X - Y ≠ -(2 * U + V)
theorem out_off {X Y U V : Int} (n : ¬ WinL X Y U V) (f : Off X Y U V) : U + V < X ∨ X < -(U + V) ∨ U + V < Y ∨ Y < -(U + V) ∨ 2 * U + V < X + Y ∨ X + Y < -(2 * U + V) ∨ 2 * U + V < X - Y ∨ X - Y < -(2 * U + V) := by
  obtain ⟨f1, f2, f3, f4, f5, f6, f7, f8⟩ := f
  have := WinL.out n
  omega
theorem clo_two {X Y U V : Int} (u : 0 < U) (lo : 7 * U < 5 * V) (hi : 2 * V ≤ 3 * U) : ∀ d, d < 8 → ¬ WinL (gX U V X ((d + 1) % 8)) (gY U V Y ((d + 1) % 8)) U V → Off (gX U V X ((d + 1) % 8)) (gY U V Y ((d + 1) % 8)) U V → clo1 X Y U V d ((d + 2) % 8) := by
  intro d hd n f h0 h1 h2
  have v : 0 < V := by omega
  have o := out_off n f
  clear n f
  have cs : d = 0 ∨ d = 1 ∨ d = 2 ∨ d = 3 ∨ d = 4 ∨ d = 5 ∨ d = 6 ∨ d = 7 := by omega
  rcases cs with rfl | rfl | rfl | rfl | rfl | rfl | rfl | rfl
  all_goals
    obtain ⟨a1, a2, a3, a4, a5, a6, a7, a8⟩ := h0
    obtain ⟨b1, b2, b3, b4, b5, b6, b7, b8⟩ := h1
    obtain ⟨c1, c2, c3, c4, c5, c6, c7, c8⟩ := h2
    simp only [gX, gY, Nat.reduceAdd, Nat.reduceMod] at *
    constructor <;> omega
theorem clo_three {X Y U V : Int} (u : 0 < U) (lo : 7 * U < 5 * V) (hi : 2 * V ≤ 3 * U) : ∀ d, d < 8 → ¬ WinL (gX U V X ((d + 1) % 8)) (gY U V Y ((d + 1) % 8)) U V → ¬ WinL (gX U V X ((d + 2) % 8)) (gY U V Y ((d + 2) % 8)) U V → Off (gX U V X ((d + 1) % 8)) (gY U V Y ((d + 1) % 8)) U V → Off (gX U V X ((d + 2) % 8)) (gY U V Y ((d + 2) % 8)) U V → clo1 X Y U V d ((d + 3) % 8) := by
  intro d hd n m f f2 h0 h1 h2
  have v : 0 < V := by omega
  have o := out_off n f
  have o2 := out_off m f2
  clear n m f f2
  have cs : d = 0 ∨ d = 1 ∨ d = 2 ∨ d = 3 ∨ d = 4 ∨ d = 5 ∨ d = 6 ∨ d = 7 := by omega
  rcases cs with rfl | rfl | rfl | rfl | rfl | rfl | rfl | rfl
  all_goals
    obtain ⟨a1, a2, a3, a4, a5, a6, a7, a8⟩ := h0
    obtain ⟨b1, b2, b3, b4, b5, b6, b7, b8⟩ := h1
    obtain ⟨c1, c2, c3, c4, c5, c6, c7, c8⟩ := h2
    simp only [gX, gY, Nat.reduceAdd, Nat.reduceMod] at *
    constructor <;> omega
/-- a tile of the floor: no side lies within it -/
def in4 (X Y U V : Int) (d e : Nat) : Prop := WinL X Y U V ∧ WinL (gX U V X d) (gY U V Y d) U V ∧ WinL (gX U V X e) (gY U V Y e) U V ∧ WinL (gX U V (gX U V X d) e) (gY U V (gY U V Y d) e) U V
theorem non_two {X Y U V : Int} (u : 0 < U) (lo : 7 * U < 5 * V) (hi : 2 * V ≤ 3 * U) : ∀ d, d < 8 → in4 X Y U V d ((d + 2) % 8) → ¬ WinL (gX U V X ((d + 1) % 8)) (gY U V Y ((d + 1) % 8)) U V := by
  intro d hd ⟨h0, h1, h2, h3⟩ n
  have v : 0 < V := by omega
  have cs : d = 0 ∨ d = 1 ∨ d = 2 ∨ d = 3 ∨ d = 4 ∨ d = 5 ∨ d = 6 ∨ d = 7 := by omega
  rcases cs with rfl | rfl | rfl | rfl | rfl | rfl | rfl | rfl
  all_goals
    obtain ⟨a1, a2, a3, a4, a5, a6, a7, a8⟩ := h0
    obtain ⟨b1, b2, b3, b4, b5, b6, b7, b8⟩ := h1
    obtain ⟨c1, c2, c3, c4, c5, c6, c7, c8⟩ := h2
    obtain ⟨e1, e2, e3, e4, e5, e6, e7, e8⟩ := h3
    obtain ⟨f1, f2, f3, f4, f5, f6, f7, f8⟩ := n
    simp only [gX, gY, Nat.reduceAdd, Nat.reduceMod] at *
    omega
theorem non_three {X Y U V : Int} (u : 0 < U) (lo : 7 * U < 5 * V) (hi : 2 * V ≤ 3 * U) : ∀ d, d < 8 → in4 X Y U V d ((d + 3) % 8) → ¬ WinL (gX U V X ((d + 1) % 8)) (gY U V Y ((d + 1) % 8)) U V ∧ ¬ WinL (gX U V X ((d + 2) % 8)) (gY U V Y ((d + 2) % 8)) U V := by
  intro d hd ⟨h0, h1, h2, h3⟩
  have v : 0 < V := by omega
  have cs : d = 0 ∨ d = 1 ∨ d = 2 ∨ d = 3 ∨ d = 4 ∨ d = 5 ∨ d = 6 ∨ d = 7 := by omega
  rcases cs with rfl | rfl | rfl | rfl | rfl | rfl | rfl | rfl
  all_goals
    obtain ⟨a1, a2, a3, a4, a5, a6, a7, a8⟩ := h0
    obtain ⟨b1, b2, b3, b4, b5, b6, b7, b8⟩ := h1
    obtain ⟨c1, c2, c3, c4, c5, c6, c7, c8⟩ := h2
    obtain ⟨e1, e2, e3, e4, e5, e6, e7, e8⟩ := h3
    constructor
    all_goals
      intro n
      obtain ⟨f1, f2, f3, f4, f5, f6, f7, f8⟩ := n
      simp only [gX, gY, Nat.reduceAdd, Nat.reduceMod] at *
      omega
end L2.My

/-! W22: a comprehension over a zip of two lists. -/
namespace L2.My
open PySem PySem.Spec PyProof.Rows
section
variable {K : PySem.W.Frag} {σ : L2.St} {H : Hp} {Q : VK} {a b : Addr} {xs ys : List V} {te : TE} {ws : List Nat} {g : TG} {tt : TT}
theorem k_lcZL (Pv : Nat → Addr → Hp → Prop) (ha : H a = some (.lst xs)) (hb : H b = some (.lst ys)) (e : xs.length = ys.length) (h0 : ∀ D, H D = none → Pv 0 D (upd H D (.lst []))) (hl : ∀ i D H', Pv i D H' → H' a = some (.lst xs) ∧ H' b = some (.lst ys))
    (hs : ∀ i x y D H T H', xs[i]? = some x → ys[i]? = some y → Pv i D H → H T = none → Same H H' → H' T = some (.tup [x, y]) → g (.ref T) (wipe σ ws) H' fun σ2 H2 => wipe σ2 ws = wipe σ ws ∧ tt σ2 H2 fun b H3 =>
      if b = true then te σ2 H3 fun z H4 => ∃ acc, H4 D = some (.lst acc) ∧ acc.length < sizeLine ∧ Pv (i + 1) D (upd H4 D (.lst (acc ++ [z]))) else Pv (i + 1) D H3) (hd : ∀ D H, Pv xs.length D H → Q (.ref D) H) : CompZT K g tt te ws σ [.ref a, .ref b] H Q := by
  refine ⟨a, b, xs, ys, rfl, .inl ⟨SqL.of ha, SqL.of hb, fun D hD => ⟨fun i m H => Pv i D H ∧ m + i = xs.length, ⟨xs.length, h0 D hD, rfl⟩, fun i m H ⟨q, em⟩ => ?_⟩⟩⟩
  obtain ⟨l1, l2⟩ := hl i D H q
  rcases Nat.lt_or_ge i xs.length with h | h
  · right
    have ex : xs[i]? = some xs[i] := List.getElem?_eq_getElem h
    have ey : ys[i]? = some (ys[i]'(by omega)) := List.getElem?_eq_getElem (by omega)
    refine ⟨⟨xs, ys, _, _, SqL.of l1, SqL.of l2, ex, ey⟩, Pv (i + 1) D, fun H' q' => ⟨m - 1, by omega, q', by omega⟩, ?_⟩
    rintro x H' ⟨T, x', y', rfl, hT, rfl, h1, h2⟩
    exact hs i x' y' D H T _ (h1 xs (SqL.of l1)) (h2 ys (SqL.of l2)) q hT (Same.new hT) upd_same
  · left
    obtain rfl : i = xs.length := by omega
    exact ⟨⟨xs, ys, SqL.of l1, SqL.of l2, .inl (Nat.le_refl _)⟩, hd D H q⟩
end
end L2.My

/-! W23: != of two lists, or two tuples, with the same things in them. -/
namespace L2.My
open PySem PySem.Spec PyProof.Rows
theorem eqV_refl {v : V} (h : flatV v = true) : eqV v v = true := by
  cases v with
  | non => rfl
  | bl b => cases b <;> rfl
  | int i => exact beq_self_eq_true i
  | str z => exact beq_self_eq_true z
  | _ => cases h
section
variable {X : Cx}
theorem same_items {A : Around} {s : Shared} {xs : List V} {us ws : List Value} (r : Vals xs us) (r2 : Vals xs ws) (hx : ∀ v ∈ xs, flatV v = true ∨ ∃ p, v = .ref p) (j : Nat) (h1 : j < us.toArray.size) (h2 : j < ws.toArray.size) : SeqAt.EqAt A s us.toArray[j] ws.toArray[j] true := by
  have l1 : j < us.length := by simpa using h1
  have hj : j < xs.length := by rw [r.length]; exact l1
  obtain ⟨u, hu, ru⟩ := r.get (i := j) (List.getElem?_eq_getElem hj)
  obtain ⟨w, hw, rw'⟩ := r2.get (i := j) (List.getElem?_eq_getElem hj)
  have e1 : us.toArray[j] = u := by simpa using (List.getElem?_eq_some_iff.mp hu).2
  have e2 : ws.toArray[j] = w := by simpa using (List.getElem?_eq_some_iff.mp hw).2
  rw [e1, e2]
  rcases hx _ (List.getElem_mem hj) with f | ⟨p, e⟩
  · have := eqAt_V (A := A) (s := s) ru rw' f f
    rwa [eqV_refl f] at this
  · rw [e] at ru rw'
    cases ru
    cases rw'
    exact SeqAt.EqAt.same _
/-- two lists, or two tuples, of the same things -/
def rNeSame (K : PySem.W.Frag) : R2 := fun x y H Q => ∃ a b xs, x = .ref a ∧ y = .ref b ∧ (SqL K H a xs ∧ SqL K H b xs ∨ SqT K H a xs ∧ SqT K H b xs) ∧ (∀ v ∈ xs, flatV v = true ∨ ∃ p, v = .ref p) ∧ Q (.bl false) H
theorem op_neSame (hu : X.A.units + 64 < cLine) : OpR X (compareOp .NotEq) (rNeSame X.K) := by
  intro pins s σ H x y v u Q I rx ry h
  obtain ⟨a, b, xs, rfl, rfl, hab, hx, q⟩ := h
  cases rx
  cases ry
  rcases hab with ⟨ha, hb⟩ | ⟨ha, hb⟩
  · obtain ⟨its, r, pl, hz⟩ := I.list ha
    obtain ⟨its2, r2, pl2, hz2⟩ := I.list hb
    have l1 := r.length
    have l2 := r2.length
    have hsz : its.toArray.size = its2.toArray.size := by rw [List.size_toArray, List.size_toArray]; omega
    refine SeqAt.RcNeAt.lists (e := fun _ => true) pl.isList pl2.isList hsz (by omega) (fun j h1 h2 => same_items r r2 hx j h1 h2) _ _ _ _ ⟨.bl _, H, I, rfl, ?_⟩
    rw [show (!(List.range its.toArray.size).all fun _ => true) = false by simp]
    exact q
  · obtain ⟨its, r, pl, hz⟩ := I.tuple ha
    obtain ⟨its2, r2, pl2, hz2⟩ := I.tuple hb
    have l1 := r.length
    have l2 := r2.length
    have hsz : its.toArray.size = its2.toArray.size := by rw [List.size_toArray, List.size_toArray]; omega
    refine SeqAt.RcNeAt.tuples (e := fun _ => true) pl pl2 (by omega) (fun j h1 h2 => same_items r r2 hx j h1 h2) _ _ _ _ ⟨.bl _, H, I, rfl, ?_⟩
    rw [hsz]
    simp only [beq_self_eq_true, Bool.and_true]
    rw [show (!(List.range (min its2.toArray.size its2.toArray.size)).all fun _ => true) = false by simp]
    exact q
end
theorem w_repL {H : Hp} {Q : VK} {l : Addr} {k : Int} {xs : List V} (h : H l = some (.lst xs)) (k0 : 0 ≤ k) (k9 : k ≤ 1000) (hl : xs.length * k.toNat ≤ 1000) (q : ∀ p H2, H p = none → Same H H2 → H2 p = some (.lst (List.replicate k.toNat xs).flatten) → Q (.ref p) H2) : rRep (.ref l) (.int k) H Q :=
  ⟨l, k, xs, rfl, rfl, h, by omega, by omega, Nat.le_trans hl (by decide), fun p hp => q p _ hp (Same.new hp) upd_same⟩
end L2.My

/-! W24: tuples whose object is told (no dict of its own): t.index(x); steps over what reads as a tuple. -/
namespace L2.My
open PySem PySem.Spec PyProof.Rows
/-- a tuple without a dict of its own -/
def FzT (H : Hp) (a : Addr) (xs : List V) : Prop := ∃ ob : Obj, ob.dict = none ∧ H a = some (.frz ob (.tup xs))
theorem FzT.same {H H' : Hp} {a : Addr} {xs : List V} (h : FzT H a xs) (s : Same H H') : FzT H' a xs := by
  obtain ⟨ob, d, e⟩ := h
  exact ⟨ob, d, s _ _ e⟩
theorem FzT.kpt {H H' : Hp} {a : Addr} {xs : List V} (h : FzT H a xs) (s : Kpt H H') : FzT H' a xs := by
  obtain ⟨ob, d, e⟩ := h
  exact ⟨ob, d, s _ _ (by intro xs z; cases z) (by intro xs z; cases z) e⟩
theorem FzT.sq {K : PySem.W.Frag} {H : Hp} {a : Addr} {xs : List V} (h : FzT H a xs) : SqT K H a xs := by
  obtain ⟨ob, d, e⟩ := h
  exact .inl (.inr ⟨ob, e⟩)
section
variable {X : Cx}
def rTupOfF (K : PySem.W.Frag) : List V → Hp → VK → Prop := fun vs H Q => ∃ p ys, vs = [.ref p] ∧ SqL K H p ys ∧ ∀ l H', H l = none → Same H H' → FzT H' l ys → Q (.ref l) H'
theorem cn_tupleF : CallR X (.type "tuple") (rTupOfF X.K) := by
  intro pins s σ H xs us Q I r h
  obtain ⟨p, ys, rfl, hq, q⟩ := h
  obtain ⟨u, rfl, rx⟩ := vals1 r
  cases rx
  obtain ⟨its, r', pl, hz⟩ := I.list hq
  have hlen := r'.length
  refine call_tuple_list pl.isList (fun h' kp => ?_) (by simp only [List.size_toArray] <;> omega)
  have I1 : Inv X pins σ H { s with heap := h' } := I.kept (t' := s.toks) kp
  have I2 : Inv X pins σ (upd H h'.objs.size (.frz { cls := .type "tuple", data := .seq its.toArray } (.tup ys))) { s with heap := h'.push { cls := .type "tuple", data := .seq its.toArray } } :=
    I1.laid (t' := s.toks) (fun b o e => Heap.get?_push_of_some _ e) (Nat.le_refl _) ⟨Heap.get?_push_size _ rfl, hz, its, r', IsTup.new _ _⟩
  have hn := I1.hok.fresh (Nat.le_refl _)
  exact ⟨.ref h'.objs.size, _, I2, rfl, q _ _ hn (Same.new hn) ⟨_, rfl, upd_same⟩⟩
variable {o e : Expr} {es : List Expr} {to : TE} {t : TA} {name : Str} {apos cpos : Pos} {id : String} {r : V → List V → Hp → VK → Prop}
def TMp (x : V) (H : Hp) (N : Prop) : Prop := ∃ a xs, x = .ref a ∧ FzT H a xs ∧ N
def tTM (r : V → List V → Hp → VK → Prop) (to : TE) (t : TA) : TE := fun σ H Q => to σ H fun x H1 => TMp x H1 (t σ H1 fun xs H2 => r x xs H2 Q)
theorem w_tm {σ : L2.St} {H : Hp} {Q : VK} (q : to σ H fun x H1 => TMp x H1 (t σ H1 fun xs H2 => r x xs H2 Q)) : tTM r to t σ H Q := q
theorem k_tm {a : Addr} {xs : List V} {H : Hp} {N : Prop} (h : FzT H a xs) (q : N) : TMp (.ref a) H N := ⟨a, xs, rfl, h, q⟩
theorem pe_tm (pa : PlainAttrs "tuple") (slot : Slot "tuple" name id) (hty : typeOf (.builtin id) = pure (.type "method_descriptor")) (hm : MtR X id r) (ho : PE X o to) (ha : PA X (e :: es) t)
    (hbase : attributeBase o name X.env (eval o X.env) = eval o X.env := by rfl)
    (hfew : ((backTo cpos (starEach (e :: es) X.env)).all (fun x => !x.1) && (backToKw cpos (keywordEach [] X.env)).all (fun x => x.1.isSome)
      && decide ((e :: es).length + ([] : List Keyword).length + (if ([] : List Keyword).isEmpty then 0 else 1) < 30)) = true := by rfl)
    (hline : (apos.endLine == cpos.line) = true := by rfl) (hs : starEach (e :: es) X.env = (false, eval e X.env) :: starEach es X.env := by rfl) (hplain : (backTo cpos (starEach es X.env)).any (·.1) = false := by rfl) :
    PE X (.Call (.Attribute o name apos) (e :: es) [] cpos) (tTM r to t) := by
  refine ⟨fun pins s σ H Q I h => ?_⟩
  refine wpAny_Call_method_late hbase hfew hline rfl (thn (ho.run pins s σ H _ I h) fun v s1 ⟨x, H1, I1, r1, q0⟩ => ?_)
  obtain ⟨a, xs, ex, ⟨ob, hd, hf⟩, q1⟩ := q0
  subst ex
  cases (show v = Value.ref a from r1)
  obtain ⟨hg, hz, its, rv, ⟨o', ho', hc', _⟩⟩ := I1.hok a _ hf
  have h1 : s1.TypeIs (.ref a) "tuple" := ⟨o', ho', hc'⟩
  have h2 : ∀ b, Value.ref a = .ref b → ∃ ob, s1.heap.get? b = some ob ∧ ob.dict = none := fun b eb => by
    cases eb
    exact ⟨ob, hg, hd⟩
  refine ⟨"tuple", id, pa, slot, hty, h1, h2, ?_⟩
  have hA := ha.run cpos pins s1 σ H1 _ I1 q1
  rw [hs] at hA ⊢
  refine Calls.callWith_builtin (by show (false || (backTo cpos (starEach es X.env)).any (·.1)) = false; rw [hplain] <;> rfl) (Calls.evalArgs_plain ?_)
  exact thn hA fun us s2 ⟨vs, H2, I2, r2, q2⟩ => hm pins s2 σ H2 (.ref a) vs (.ref a) us Q I2 rfl r2 q2
end
/-! steps over SqT -/
section
variable {K : PySem.W.Frag} {σ : L2.St} {H : Hp} {Q : VK} {a b : Addr} {xs ys : List V} {te : TE} {ws : List Nat} {g : TG} {tt : TT} {tb : TS}
theorem w_ixS {i : Int} {v : V} (h : SqT K H a xs) (e : atI xs i = some v) (q : Q v H) : rIx K (.ref a) (.int i) H Q := .inr (.inl ⟨a, xs, i, v, rfl, rfl, h, e, q⟩)
theorem k_forS {nx bk ct : L2.St → Hp → Prop} {rt : VK} (Pv : Nat → L2.St → Hp → Prop) (h : SqT K H a xs) (h0 : Pv 0 σ H) (hl : ∀ i σ H, Pv i σ H → SqT K H a xs)
    (hs : ∀ i x σ H, xs[i]? = some x → Pv i σ H → g x σ H fun σ2 H2 => tb ⟨Pv (i + 1), rt, nx, Pv (i + 1)⟩ σ2 H2) (hd : ∀ σ H, Pv xs.length σ H → nx σ H) : ForT K g tb ⟨nx, rt, bk, ct⟩ σ (.ref a) H :=
  ⟨a, rfl, ⟨_, h⟩, for_tup (xs := xs) Pv h0 (fun i σ H _ q => hl i σ H q) hs hd⟩
/-- a slice that is not the whole -/
theorem k_slTS {lo hi : Option Int} (h : SqT K H a xs) (n : ¬ (HT.sIx xs.length 0 lo = 0 ∧ HT.sIx xs.length xs.length hi = xs.length)) (q : ∀ p H2, H p = none → Same H H2 → H2 p = some (.tup (cutV xs lo hi)) → Q (.ref p) H2) : SlP (rSlA K) (.ref a) lo hi H Q :=
  ⟨a, xs, rfl, h, fun z => absurd z n, fun _ p hp => q p _ hp (Same.new hp) upd_same⟩
theorem k_lcZS (Pv : Nat → Addr → Hp → Prop) (ha : SqT K H a xs) (hb : SqT K H b ys) (e : xs.length = ys.length) (h0 : ∀ D, H D = none → Pv 0 D (upd H D (.lst []))) (hl : ∀ i D H', Pv i D H' → SqT K H' a xs ∧ SqT K H' b ys)
    (hs : ∀ i x y D H T H', xs[i]? = some x → ys[i]? = some y → Pv i D H → H T = none → Same H H' → H' T = some (.tup [x, y]) → g (.ref T) (wipe σ ws) H' fun σ2 H2 => wipe σ2 ws = wipe σ ws ∧ tt σ2 H2 fun b H3 =>
      if b = true then te σ2 H3 fun z H4 => ∃ acc, H4 D = some (.lst acc) ∧ acc.length < sizeLine ∧ Pv (i + 1) D (upd H4 D (.lst (acc ++ [z]))) else Pv (i + 1) D H3) (hd : ∀ D H, Pv xs.length D H → Q (.ref D) H) : CompZT K g tt te ws σ [.ref a, .ref b] H Q := by
  refine ⟨a, b, xs, ys, rfl, .inr ⟨ha, hb, fun D hD => ⟨fun i m H => Pv i D H ∧ m + i = xs.length, ⟨xs.length, h0 D hD, rfl⟩, fun i m H ⟨q, em⟩ => ?_⟩⟩⟩
  obtain ⟨l1, l2⟩ := hl i D H q
  rcases Nat.lt_or_ge i xs.length with h | h
  · right
    have ex : xs[i]? = some xs[i] := List.getElem?_eq_getElem h
    have ey : ys[i]? = some (ys[i]'(by omega)) := List.getElem?_eq_getElem (by omega)
    refine ⟨⟨xs, ys, _, _, l1, l2, ex, ey⟩, Pv (i + 1) D, fun H' q' => ⟨m - 1, by omega, q', by omega⟩, ?_⟩
    rintro x H' ⟨T, x', y', rfl, hT, rfl, h1, h2⟩
    exact hs i x' y' D H T _ (h1 xs l1) (h2 ys l2) q hT (Same.new hT) upd_same
  · left
    obtain rfl : i = xs.length := by omega
    exact ⟨⟨xs, ys, l1, l2, .inl (Nat.le_refl _)⟩, hd D H q⟩
end
end L2.My

/-! W26: for over enumerate of a tuple. -/
namespace L2.My
open PySem PySem.Spec PyProof.Rows
/-- enumerate(v): two new cells -/
theorem enum_new1 {v : Value} {o : Obj} {Hh : Heap → Prop} (B : Begins v o Hh) : Meets (Builtin.«enumerate.__new__» ⟨[.type "enumerate", v], []⟩) (fun _ R s => Hh s.heap ∧
    R (.ok (.ret (.ref (s.heap.push o).objs.size))) { s with heap := (s.heap.push o).push { cls := .type "enumerate", data := .fields #[.none, .bool false, .ref s.heap.objs.size, rawInt 0, .none, .none] } }) := .of_wp fun prog w A R s h => by
  obtain ⟨hp, g, d, tk, os⟩ := s
  obtain ⟨h0, h⟩ := h
  have su := sub_enumerate
  have it1 : ∀ {A' : Around} {E : Value → Shared → Prop} {Q : Value → Shared → Prop}, Q (.ref hp.objs.size) ⟨hp.push o, g, d, tk, os⟩ → wpAny (model prog w) A' (pyIter v) Q E ⟨hp, g, d, tk, os⟩ := fun z => B.iter prog w _ _ ⟨hp, g, d, tk, os⟩ _ h0 z
  wp_walk using it1
  refine wpAny_stack_any (fun st => wpAny_pure ?_)
  split
  · rename_i c _ _ _ _ _
    cases (c == Value.type "enumerate") <;> (wp_walk using it1; exact ⟨_, rfl, h⟩)
  · wp_walk using it1; exact ⟨_, rfl, h⟩
section
variable {prog : Program} {w : World} {A : Around} {E : Value → Shared → Prop} {s : Shared}
theorem enum_begin1 {v : Value} {o : Obj} {Hh : Heap → Prop} {Q : Value → Shared → Prop} (B : Begins v o Hh) (h1 : Hh s.heap)
    (h : ∀ h', IsEnum h' (s.heap.objs.size + 1) s.heap.objs.size 0 .none → h'.get? s.heap.objs.size = some o → (∀ b o, s.heap.get? b = some o → h'.get? b = some o) → Q (.ref (s.heap.objs.size + 1)) { s with heap := h' }) : wpAny (model prog w) A (call (.type "enumerate") [v]) Q E s := by
  refine callType_new F.called_enumerate (by decide) (F.typeCall_enumerate_1 _) (F.newCall_enumerate_1 _) (fun obj => F.args_object_init_2 obj _) F.entry_enumerate_new (enum_new1 B) ⟨h1, ?_⟩
  have sz : (s.heap.push o).objs.size = s.heap.objs.size + 1 := Heap.size_push ..
  show _ ∧ _
  have q1 := Heap.get?_push_size (s.heap.push o) (o := { cls := .type "enumerate", data := .fields #[.none, .bool false, .ref s.heap.objs.size, rawInt 0, .none, .none] }) rfl
  rw [sz] at q1 ⊢
  exact ⟨⟨_, q1, rfl⟩, h _ q1 (Heap.get?_push_of_some _ (Heap.get?_push_size _ B.free)) fun b o x => Heap.get?_push_of_some _ (Heap.get?_push_of_some _ x)⟩
end
/-- the tuple at a, each item in a new pair -/
def IteT (K : PySem.W.Frag) (a : Addr) : It :=
  ⟨fun i H => ∃ (xs : List V) (x : V), SqT K H a xs ∧ xs[i]? = some x, fun i H v H' => ∃ T x, v = .ref T ∧ H T = none ∧ H' = upd H T (.tup [.int (i : Nat), x]) ∧ ∀ xs, SqT K H a xs → xs[i]? = some x, fun i H => ∃ xs : List V, SqT K H a xs ∧ xs.length = i⟩
theorem turn_enumT {P : Program} {w : World} {K : PySem.W.Frag} {elts : List Expr} {kk : Nat} {tpos : Pos} (a e it : Addr) (n1 : a ≠ it) (n2 : e ≠ a) (hne : e ≠ it) :
    Turn P w K (.Tuple elts kk tpos) (IteT K a) [e, it] e (fun i h => (∃ old, IsEnum h e it ((i : Nat) : Int) old) ∧ h.IsTupleIter it a i) where
  mem := by simp
  obj := fun i h st b hb => by
    obtain ⟨⟨old, he⟩, ⟨o, ho, hc, hd⟩⟩ := st
    rcases List.mem_cons.mp hb with z | z
    · exact z ▸ ⟨_, he, fun v q => nomatch q⟩
    · exact List.mem_singleton.mp z ▸ ⟨o, ho, fun v q => by rw [hd] at q; cases q⟩
  keep := fun i h h' st k => ⟨st.1.imp fun _ he => k e (by simp) _ he, st.2.at fun o q => k it (by simp) o q⟩
  item := by
    rintro X rfl rfl rfl hc i pins s σ H E I hf ⟨⟨old, he⟩, hit⟩ ⟨xs, x, hq, hx⟩
    obtain ⟨its, rv, p, hz⟩ := I.tuple hq
    obtain ⟨u, hu, ru⟩ := rv.get hx
    have l1 : e < s.heap.objs.size := Heap.lt_size he
    have l2 : it < s.heap.objs.size := by obtain ⟨_, q, _⟩ := hit; exact Heap.lt_size q
    have li : i < its.toArray.size := by rw [List.size_toArray]; exact (List.getElem?_eq_some_iff.mp hu).1
    refine wpAny_pyNext_enum_itemD (Draws.tuple (show X.A.in1.handled = none from I.ok.hd hc) it a n1 its.toArray) he ⟨hit, p⟩ li hne (by simp [hne, n2]) fun x' h' tk hP ho st' hT hsz hk => ?_
    obtain rfl : x' = u := Option.some.inj (hP.symm.trans (by simpa using hu))
    refine ⟨_, rfl, wpAny_letOwnedTupleGo_enum (s := { s with heap := h', toks := tk + 1 }) ho fun h2 he2 sb => ?_⟩
    have f2 : h2.get? s.heap.objs.size = some { cls := .type "tuple", data := .seq #[.int i tk, x'] } := (sb.2 _ (Nat.ne_of_gt l1)).trans hT
    have nw : ObjOk X.prog X.w (upd H s.heap.objs.size (.tup [.int (i : Nat), x])) h2 s.heap.objs.size (.tup [.int (i : Nat), x]) := ⟨by show 2 ≤ sizeLine; decide, [.int i tk, x'], .cons ⟨_, rfl⟩ (.cons ru .nil), ⟨_, f2, rfl, _, rfl⟩⟩
    have I1 : Inv X pins σ (upd H s.heap.objs.size (.tup [.int (i : Nat), x])) { s with heap := h2, toks := tk + 1 } :=
      I.turnedNew (ch := [e, it]) (fun b ob hb q => (sb.2 b (fun z => hb (z ▸ List.mem_cons_self ..))).trans (hk b ob (fun z => hb (z ▸ List.mem_cons_self ..)) (fun z => hb (z ▸ List.mem_cons_of_mem _ (List.mem_singleton.mpr rfl))) q)) hf (Nat.le_refl _) nw
    refine ⟨.ref s.heap.objs.size, _, I1, rfl, ⟨_, x, rfl, I.hok.fresh (Nat.le_refl _), rfl, fun ys hy => I.tuple_inj hy hq ▸ hx⟩, ⟨⟨x', ?_⟩, st'.1.at fun o q => (sb.2 it (Ne.symm hne)).trans q⟩, fun b hb => ?_⟩
    · rw [show ((i + 1 : Nat) : Int) = (i : Int) + 1 from rfl]; exact he2
    · have lb : b < s.heap.objs.size := by
        rcases List.mem_cons.mp hb with z | z
        · exact z ▸ l1
        · exact List.mem_singleton.mp z ▸ l2
      exact (upd_ne (Nat.ne_of_lt lb)).trans (hf b hb).1
  done := by
    rintro X rfl rfl rfl hc i pins s σ H E I hf ⟨⟨old, he⟩, hit⟩ ⟨xs, hq, hx⟩
    obtain ⟨its, rv, p, hz⟩ := I.tuple hq
    obtain ⟨f0, f1, f2, f3, f4, f5⟩ := hf it (by simp)
    have li : i = its.toArray.size := by rw [List.size_toArray, ← rv.length]; exact hx.symm
    subst li
    exact wpAny_pyNext_enum_endD (Draws.tuple (show X.A.in1.handled = none from I.ok.hd hc) it a n1 its.toArray) he ⟨hit, p⟩ fun h' eb => ⟨rfl, I.turned (t' := s.toks) (fun b o hb q => eb b o hb q) f0 f1 f3 f4 f5⟩
  self := fun A i s Q E st h => let ⟨⟨_, he⟩, _⟩ := st; wpAny_pyIter_enum he h
def iEnumT (K : PySem.W.Frag) (ta : TA) : TI := fun σ H R => ta σ H fun vs H1 => ∃ a xs, vs = [.ref a] ∧ SqT K H1 a xs ∧ R (IteT K a) H1
theorem pi_enumT {X : Cx} {e : Expr} {ta : TA} {p pos tpos : Pos} {elts : List Expr} {kk : Nat} (hg : Gl X "enumerate") (hm : X.mg "enumerate" = none) (ha : PA X [e] ta) (hs : starEach [e] X.env = [(false, eval e X.env)] := by rfl) :
    PI X (.Tuple elts kk tpos) (.Call (.Name "enumerate" p) [e] [] pos) (iEnumT X.K ta) := ⟨fun pins s σ H R I h => by
  refine Call_ (ld_blt I hg hm boot_enumerate (PyProof.Rows.callWith_type1 (thn (ha.run pos pins s σ H _ I h) fun us s1 ⟨vs, H1, I1, r1, a, xs, ex, hq, q⟩ => ?_) hs rfl))
  subst ex
  obtain ⟨u, rfl, r⟩ := vals1 r1
  cases r
  obtain ⟨its, rv, p', hz⟩ := I1.tuple hq
  have la : a < s1.heap.objs.size := by obtain ⟨o, ho, _⟩ := id p'; exact Heap.lt_size ho
  refine enum_begin1 (begins_tuple a its.toArray) p' fun h' he hit hk => wpAny_pyIter_enum he ⟨s1.heap.objs.size + 1, [s1.heap.objs.size + 1, s1.heap.objs.size], _, _, H1, rfl, I1.kept (t' := s1.toks) hk, turn_enumT a (s1.heap.objs.size + 1) s1.heap.objs.size (Nat.ne_of_lt la) (Nat.ne_of_gt (Nat.lt_succ_of_lt la)) (Nat.succ_ne_self _), ⟨⟨.none, he⟩, ⟨_, hit, rfl, rfl⟩⟩, fun b hb => ?_, q⟩
  have hle : s1.heap.objs.size ≤ b := by
    rcases List.mem_cons.mp hb with z | z
    · exact z ▸ Nat.le_add_right _ _
    · exact List.mem_singleton.mp z ▸ Nat.le_refl _
  exact I1.fpOk hle (I1.hok.fresh hle)⟩
section
variable {K : PySem.W.Frag} {σ : L2.St} {H : Hp} {g : TG} {tb : TS} {D : Ends} {a : Addr} {xs : List V} {ta : TA}
def ForEnT (K : PySem.W.Frag) (g : TG) (tb : TS) (D : Ends) (σ : L2.St) (vs : List V) (H : Hp) : Prop := tFor (iEnumT K fun _ H Q => Q vs H) g tb D σ H
theorem w_forEnT (q : ta σ H fun vs H1 => ForEnT K g tb D σ vs H1) : tFor (iEnumT K ta) g tb D σ H := q
theorem k_forEnT {nx bk ct : L2.St → Hp → Prop} {rt : VK} (Pv : Nat → L2.St → Hp → Prop) (hx : SqT K H a xs) (h0 : Pv 0 σ H) (hl : ∀ i σ H, Pv i σ H → SqT K H a xs)
    (hs : ∀ i x σ H T H', xs[i]? = some x → Pv i σ H → H T = none → Same H H' → H' T = some (.tup [.int (i : Nat), x]) → g (.ref T) σ H' fun σ2 H2 => tb ⟨Pv (i + 1), rt, nx, Pv (i + 1)⟩ σ2 H2) (hd : ∀ σ H, Pv xs.length σ H → nx σ H) :
    ForEnT K g tb ⟨nx, rt, bk, ct⟩ σ [.ref a] H := by
  refine ⟨a, xs, rfl, hx, fun i m σ H => Pv i σ H ∧ m + i = xs.length, ⟨xs.length, h0, rfl⟩, fun i m σ H ⟨q, em⟩ => ?_⟩
  have l1 := hl i σ H q
  rcases Nat.lt_or_ge i xs.length with h | h
  · refine .inr ⟨⟨xs, _, l1, List.getElem?_eq_getElem h⟩, Pv (i + 1), fun σ' H' q' => ⟨m - 1, by omega, q', by omega⟩, ?_⟩
    rintro x H' ⟨T, x', rfl, hT, rfl, h1⟩
    exact hs i x' σ H T _ (h1 xs l1) q hT (Same.new hT) upd_same
  · obtain rfl : i = xs.length := by omega
    exact .inl ⟨⟨xs, l1, rfl⟩, hd σ H q⟩
/-- over a list or a tuple -/
theorem pi_enumS {X : Cx} {e : Expr} {p pos tpos : Pos} {elts : List Expr} {kk : Nat} (hg : Gl X "enumerate") (hm : X.mg "enumerate" = none) (ha : PA X [e] ta) (hs : starEach [e] X.env = [(false, eval e X.env)] := by rfl) :
    PI X (.Tuple elts kk tpos) (.Call (.Name "enumerate" p) [e] [] pos) (iOr (iEnum X.K ta) (iEnumT X.K ta)) := PI.or (pi_enum hg hm ha hs) (pi_enumT hg hm ha hs)
end
/-! a module's integer -/
theorem int_of {x : Option (Option Value)} {k : Int} (h : isIntV x k = true) : ∃ u, x = some (some u) ∧ RelV (.int k) u := by
  unfold isIntV at h
  split at h
  · obtain rfl := of_decide_eq_true h
    exact ⟨_, rfl, _, rfl⟩
  · cases h
end L2.My

/-! W27: a module's nested tuples; math.lcm of wide integers. -/
namespace L2.My
open PySem PySem.Spec PyProof.Rows
def KD (K : PySem.W.Frag) : Nat → V → PyData → Prop
  | _ + 1, v, .int j => v = .int j
  | n + 1, v, .tuple ds => ∃ a xs, v = .ref a ∧ (∀ H, SqT K H a xs) ∧ xs.length = ds.length ∧ ∀ p ∈ xs.zip ds, KD K n p.1 p.2
  | _, _, _ => False
theorem kd_all {K : PySem.W.Frag} {n : Nat} (ih : ∀ u d, kdB K n u d = true → ∃ v, RelV v u ∧ KD K n v d) : ∀ {us : List Value} {ds : List PyData}, us.length = ds.length → ((us.zip ds).all fun p => kdB K n p.1 p.2) = true → ∃ xs, Vals xs us ∧ xs.length = ds.length ∧ ∀ p ∈ xs.zip ds, KD K n p.1 p.2
  | [], [], _, _ => ⟨[], .nil, rfl, fun _ h => by cases h⟩
  | u :: us, d :: ds, h, ha => by
    rw [List.zip_cons_cons, List.all_cons, Bool.and_eq_true] at ha
    obtain ⟨v, rv, kv⟩ := ih u d ha.1
    obtain ⟨xs, r, l, k⟩ := kd_all ih (by simpa using h) ha.2
    refine ⟨v :: xs, .cons rv r, by simp [l], fun p hp => ?_⟩
    rw [List.zip_cons_cons] at hp
    rcases List.mem_cons.mp hp with rfl | hp
    · exact kv
    · exact k p hp
  | [], _ :: _, h, _ => by simp at h
  | _ :: _, [], h, _ => by simp at h
theorem kd_of {K : PySem.W.Frag} : ∀ {n : Nat} {u : Value} {d : PyData}, kdB K n u d = true → ∃ v, RelV v u ∧ KD K n v d := by
  intro n
  induction n with
  | zero => intro u d h; simp [kdB] at h
  | succ n ih =>
    intro u d h
    unfold kdB at h
    split at h
    · rename_i i _ j he
      cases he
      obtain rfl := of_decide_eq_true h
      exact ⟨.int i, ⟨_, rfl⟩, rfl⟩
    · rename_i n' a ds he
      cases he
      split at h
      · rename_i t dd its m sl hl
        simp only [Bool.and_eq_true, decide_eq_true_eq] at h
        obtain ⟨⟨⟨ht, hz⟩, hlen⟩, hall⟩ := h
        subst ht
        obtain ⟨xs, r, l, k⟩ := kd_all (fun u d => ih) hlen hall
        exact ⟨.ref a, rfl, a, xs, rfl, fun H => .inr ⟨_, its, m, hl, rfl, rfl, Nat.le_trans (Nat.le_of_ble_eq_true hz) (by decide), r⟩, l, k⟩
      · cases h
    · cases h
theorem kd_ref {K : PySem.W.Frag} {n : Nat} {a : Addr} {d : PyData} (h : kdB K n (.ref a) d = true) : KD K n (.ref a) d := by
  obtain ⟨v, rv, k⟩ := kd_of h
  cases v with
  | ref b =>
    have e : Value.ref a = Value.ref b := rv
    cases e
    exact k
  | int i => obtain ⟨t, e⟩ := (show ∃ t, Value.ref a = Value.int i t from rv); cases e
  | _ => cases n with
    | zero => exact k.elim
    | succ n => cases d <;> first | (obtain ⟨_, _, e, _⟩ := k; cases e) | exact k.elim | (cases (show _ = _ from k))
theorem KD.int {K : PySem.W.Frag} {n : Nat} {v : V} {j : Int} (h : KD K (n + 1) v (.int j)) : v = .int j := h
theorem KD.tup {K : PySem.W.Frag} {n : Nat} {v : V} {ds : List PyData} (h : KD K (n + 1) v (.tuple ds)) : ∃ a xs, v = .ref a ∧ (∀ H, SqT K H a xs) ∧ xs.length = ds.length ∧ ∀ (i : Nat) d, ds[i]? = some d → ∃ x, xs[i]? = some x ∧ KD K n x d := by
  obtain ⟨a, xs, rfl, hs, l, k⟩ := h
  refine ⟨a, xs, rfl, hs, l, fun i d hd => ?_⟩
  have hi : i < ds.length := (List.getElem?_eq_some_iff.mp hd).1
  have hx : xs[i]? = some xs[i] := List.getElem?_eq_getElem (by omega)
  refine ⟨xs[i], hx, k (xs[i], d) (List.mem_of_getElem? (i := i) ?_)⟩
  rw [List.getElem?_zip_eq_some]
  exact ⟨hx, hd⟩
theorem KD.pair {K : PySem.W.Frag} {n : Nat} {v : V} {i j : Int} (h : KD K (n + 2) v (.tuple [.int i, .int j])) : ∃ a, v = .ref a ∧ ∀ H, SqT K H a [.int i, .int j] := by
  obtain ⟨a, xs, rfl, hs, l, k⟩ := h.tup
  obtain ⟨x, hx, kx⟩ := k 0 _ rfl
  obtain ⟨y, hy, ky⟩ := k 1 _ rfl
  match xs, l with
  | [p, q], _ =>
    cases hx
    cases hy
    rw [KD.int kx, KD.int ky] at hs
    exact ⟨a, rfl, hs⟩
/-! math.lcm, wide -/
def rLcmW : List V → Hp → VK → Prop := fun vs H Q => ∃ a b : Int, vs = [.int a, .int b] ∧ Bw 6000 a ∧ Bw 6000 b ∧ Q (.int ((a.natAbs.lcm b.natAbs : Nat) : Int)) H
theorem cr_lcmW {X : Cx} : CallR X (.builtin "math.lcm") rLcmW := by
  intro pins s σ H vs us Q I r h
  obtain ⟨a, b, rfl, ha, hb, q⟩ := h
  obtain ⟨u1, u2, rfl, ra, rb⟩ := vals2 r
  obtain ⟨t, rfl⟩ := ra
  obtain ⟨u, rfl⟩ := rb
  unfold Bw at ha hb
  have l1 : a.natAbs.log2 < 6000 := PySem.Flt.log2_lt_of (by decide) ha
  have l2 : b.natAbs.log2 < 6000 := PySem.Flt.log2_lt_of (by decide) hb
  have m1 : (max 1 a.natAbs).log2 < 6000 := by
    rcases Nat.le_total 1 a.natAbs with h | h
    · rw [Nat.max_eq_right h]; exact l1
    · rw [Nat.max_eq_left h]; decide
  have m2 : (max a.natAbs b.natAbs).log2 < 6000 := by
    rcases Nat.le_total a.natAbs b.natAbs with h | h
    · rw [Nat.max_eq_right h]; exact l2
    · rw [Nat.max_eq_left h]; exact l1
  have e : (Nat.lcm 1 a.natAbs).lcm b.natAbs = a.natAbs.lcm b.natAbs := by rw [PySem.W.mc_lcm_one]
  have hz : (((Nat.lcm 1 a.natAbs).lcm b.natAbs : Nat) : Int).natAbs.log2 < bitsLine := by
    rw [e, Int.natAbs_natCast]
    have l : a.natAbs.lcm b.natAbs < 2 ^ 12000 := by
      refine Nat.lt_of_le_of_lt (PySem.W.mc_lcm_le _ _) ?_
      rw [show 12000 = 6000 + 6000 from rfl, Nat.pow_add]
      exact Nat.mul_lt_mul'' ha hb
    exact Nat.lt_of_lt_of_le (PySem.Flt.log2_lt_of (by decide) l) (by decide)
  have g := PySem.W.mg_run_lcm a t b u (by omega) (by omega) hz
  rw [e] at g
  exact call_function_meets PySem.W.MGF.kind_lcm PySem.W.MGF.plain_lcm PySem.W.MGF.entry_lcm (PySem.W.MGF.args_lcm _ _) g.meets ⟨.int _, H, I.tok _, ⟨_, rfl⟩, q⟩
/-- a comprehension within a comprehension -/
theorem blkOk_eq {N N' : List Str} {sc sc' scope : Scope} {own : List (Str × Nat)} (h1 : N = N') (h2 : sc = sc') (h : blkC N' sc' scope own = true) : BlkOk N sc scope own := by
  subst h1 h2
  exact blkOk_by h
theorem pi_tupZ {X : Cx} {K : PySem.W.Frag} {tg l : Expr} {tl : TE} (h : X.K = K) (hl : PE X l tl) : PI X tg l (iTup K tl) := h ▸ pi_tup hl
theorem pi_listZ {X : Cx} {K : PySem.W.Frag} {tg l : Expr} {tl : TE} (h : X.K = K) (hl : PE X l tl) : PI X tg l (iList K tl) := h ▸ pi_list hl
/-! a comprehension over enumerate of a tuple -/
theorem pi_enumTZ {X : Cx} {K : PySem.W.Frag} {e : Expr} {ta : TA} {p pos tpos : Pos} {elts : List Expr} {kk : Nat} (h : X.K = K) (hg : Gl X "enumerate") (hm : X.mg "enumerate" = none) (ha : PA X [e] ta) (hs : starEach [e] X.env = [(false, eval e X.env)] := by rfl) :
    PI X (.Tuple elts kk tpos) (.Call (.Name "enumerate" p) [e] [] pos) (iEnumT K ta) := h ▸ pi_enumT hg hm ha hs
section
variable {K : PySem.W.Frag} {σ : L2.St} {H : Hp} {Q : VK} {a : Addr} {xs : List V} {te : TE} {ws : List Nat} {g : TG} {tt : TT} {ta : TA}
def CompEnT (K : PySem.W.Frag) (g : TG) (tt : TT) (te : TE) (ws : List Nat) (σ : L2.St) (vs : List V) (H : Hp) (Q : VK) : Prop := tLc (iEnumT K fun _ H Q => Q vs H) g tt te ws σ H Q
theorem w_lcEnT (q : ta σ H fun vs H1 => CompEnT K g tt te ws σ vs H1 Q) : tLc (iEnumT K ta) g tt te ws σ H Q := q
theorem k_lcEnT (Pv : Nat → Addr → Hp → Prop) (ha : SqT K H a xs) (h0 : ∀ D, H D = none → Pv 0 D (upd H D (.lst []))) (hl : ∀ i D H', Pv i D H' → SqT K H' a xs)
    (hs : ∀ i x D H T H', xs[i]? = some x → Pv i D H → H T = none → Same H H' → H' T = some (.tup [.int (i : Nat), x]) → g (.ref T) (wipe σ ws) H' fun σ2 H2 => wipe σ2 ws = wipe σ ws ∧ tt σ2 H2 fun b H3 =>
      if b = true then te σ2 H3 fun z H4 => ∃ acc, H4 D = some (.lst acc) ∧ acc.length < sizeLine ∧ Pv (i + 1) D (upd H4 D (.lst (acc ++ [z]))) else Pv (i + 1) D H3) (hd : ∀ D H, Pv xs.length D H → Q (.ref D) H) : CompEnT K g tt te ws σ [.ref a] H Q := by
  refine ⟨a, xs, rfl, ha, fun D hD => ⟨fun i m H => Pv i D H ∧ m + i = xs.length, ⟨xs.length, h0 D hD, rfl⟩, fun i m H ⟨q, em⟩ => ?_⟩⟩
  have l1 := hl i D H q
  rcases Nat.lt_or_ge i xs.length with h | h
  · right
    have ex : xs[i]? = some xs[i] := List.getElem?_eq_getElem h
    refine ⟨⟨xs, _, l1, ex⟩, Pv (i + 1) D, fun H' q' => ⟨m - 1, by omega, q', by omega⟩, ?_⟩
    rintro x H' ⟨T, x', rfl, hT, rfl, h1⟩
    exact hs i x' D H T _ (h1 xs l1) q hT (Same.new hT) upd_same
  · left
    obtain rfl : i = xs.length := by omega
    exact ⟨⟨xs, l1, rfl⟩, hd D H q⟩
end
end L2.My

namespace L2.My
open PySem PySem.Spec PyProof.Rows
/-- an own exception class without own __init__ -/
structure Ex0 (K : PySem.W.Frag) (C : Addr) : Prop where
  q : PySem.W.excIn K C [.type "ValueError", .type "Exception", .type "BaseException", .type "object"] "ValueError.__new__" = true
  k : PySem.W.keepIn K (.ref C) = true
  s : PySem.W.subIn K (.ref C) (.type "BaseException") = some true
  t : PySem.W.typeIn K (.ref C) = some (.type "type")
/-- C(), to be raised -/
theorem pm_h0 {X : Cx} {x : Str} {C : Addr} {p pos : Pos} (T : Ex0 X.K C) (gC : X.mg x = some (.ref C)) (hg : Gl X x := by rfl) (hdb : (x == ("__debug__" : Str)) = false := by decide) :
    PMk X (.Call (.Name x p) [] [] pos) (fun _ H Q => Q (.ref C) none H) := by
  intro pins s σ H Q I h
  refine wpAny_Call_Name_kw (ld_glob I hg gC ?_ hdb)
  refine PySem.W.callWith_K0 (first := []) I.kIn T.k ?_
  obtain ⟨bm, N, nm, qn, bs, hdct, sn, sub, ab, col, dd, k0, k1, k2, k3, k5, mN, hC, hN, hni, T'⟩ := exc_obj I.kIn T.q
  refine wpAny_call_exc_subT PySem.F.excBase_ValueError T' hC hN hni (fun h' e hm => ?_) (Nat.zero_le _)
  exact mk_of I hm (raises_own T.s T.t) h (I.hok.gone hm.new)
theorem w_revL {K : PySem.W.Frag} {te : TE} {σ : L2.St} {H : Hp} {Q : VK} (q : te σ H fun x H1 => ∃ a xs, x = .ref a ∧ SqL K H1 a xs ∧ ∀ p, H1 p = none → Q (.ref p) (upd H1 p (.lst xs.reverse))) : tRevL K te σ H Q := q
end L2.My

local macro_rules | `(tactic| walk_at "side") => `(tactic| first | (exact Or.inl ⟨by omega, by omega⟩) | (exact Or.inr (Or.inl ⟨by omega, by omega⟩)) | (exact ⟨by decide, by decide⟩) | (show (0 : Int) < _; omega) | assumption | (exact ⟨by decide, by decide, by decide⟩))
local macro_rules | `(tactic| walk_at "st") => `(tactic| first | with_reducible exact L2.My.set0 | with_reducible exact L2.My.set1 | with_reducible exact L2.My.set2 | with_reducible exact L2.My.set3 | with_reducible exact L2.My.set4 | with_reducible exact L2.My.set5 | with_reducible exact L2.My.set6 | with_reducible exact L2.My.set7 | with_reducible exact L2.My.set8 | with_reducible exact L2.My.set9 | with_reducible exact L2.My.set10 | with_reducible exact L2.My.set11 | with_reducible exact L2.My.set12 | with_reducible exact L2.My.set13 | with_reducible exact L2.My.set14 | with_reducible exact L2.My.set15 | with_reducible exact L2.My.set16 | with_reducible exact L2.My.set17 | with_reducible exact L2.My.set18 | with_reducible exact L2.My.set19 | with_reducible exact L2.My.set20 | with_reducible exact L2.My.set21 | with_reducible exact L2.My.set22 | with_reducible exact L2.My.set23 | exact L2.My.set0 | exact L2.My.set1 | exact L2.My.set2 | exact L2.My.set3 | exact L2.My.set4 | exact L2.My.set5 | exact L2.My.set6 | exact L2.My.set7 | exact L2.My.set8 | exact L2.My.set9 | exact L2.My.set10 | exact L2.My.set11 | exact L2.My.set12 | exact L2.My.set13 | exact L2.My.set14 | exact L2.My.set15 | exact L2.My.set16 | exact L2.My.set17 | exact L2.My.set18 | exact L2.My.set19 | exact L2.My.set20 | exact L2.My.set21 | exact L2.My.set22 | exact L2.My.set23)
local macro_rules | `(tactic| walk_at "s") => `(tactic| first
  | with_reducible refine L2.My.w_seq ?_ | with_reducible refine L2.My.w_asg ?_ | with_reducible refine L2.My.w_op ?_ | with_reducible refine L2.My.w_ret ?_ | with_reducible refine L2.My.w_if ?_
  | ((with_reducible refine' L2.My.w_var ?hv ?_); (case hv => exact rfl)) | with_reducible refine L2.My.w_c ?_ | with_reducible refine L2.My.w_I0 ?_ | with_reducible refine L2.My.w_U ?_
  | ((with_reducible refine' L2.My.w_name ?hs ?_); (case hs => walk_at "st")) | with_reducible refine L2.My.w_next ?_ | with_reducible refine L2.My.w_drop ?_
  | with_reducible refine L2.My.w_test ?_ | with_reducible refine L2.My.w_B ?_ | with_reducible refine L2.My.w_bl ?_ | with_reducible refine L2.My.w_blV ?_ | with_reducible refine L2.My.w_and ?_ | with_reducible refine L2.My.w_or ?_ | with_reducible refine L2.My.w_not ?_
  | with_reducible refine L2.My.w_andV ?_ | with_reducible refine L2.My.w_orV ?_ | with_reducible refine L2.My.w_notV ?_ | with_reducible refine L2.My.w_un ?_
  | ((with_reducible refine' L2.My.w_T ?hc ?_); (case hc => exact rfl)) | ((with_reducible refine' L2.My.w_F ?hc ?_); (case hc => exact rfl))
  | with_reducible refine L2.My.w_cons ?_ | with_reducible refine L2.My.w_nil ?_ | with_reducible refine L2.My.w_call ?_ | with_reducible refine L2.My.w_cb ?_
  | with_reducible refine L2.My.w_tup ?_ | with_reducible refine L2.My.w_lst ?_ | with_reducible refine L2.My.w_fldE ?_ | with_reducible refine L2.My.w_mkO ?_ | with_reducible refine L2.My.w_int ?_ | with_reducible refine L2.My.w_intB ?_ | with_reducible refine L2.My.w_abs ?_ | with_reducible refine L2.My.w_yes ?_ | with_reducible refine L2.My.w_Tself ?_ | with_reducible refine L2.My.w_Fself ?_ | with_reducible refine L2.My.w_sl ?_ | with_reducible refine L2.My.w_dnew ?_ | with_reducible refine L2.My.w_isB ?_ | with_reducible refine L2.My.w_gsub ?_ | with_reducible refine L2.My.w_poN ?_ | with_reducible refine L2.My.w_poS ?_ | with_reducible refine L2.My.w_exI ?_
  | ((with_reducible refine' L2.My.w_I ?hc ?_); (case hc => walk_at "side"))
  | ((with_reducible refine' L2.My.w_ixL ?hh ?he ?_); (case hh => assumption); (case he => exact rfl)) | ((with_reducible refine' L2.My.w_ixT ?hh ?he ?_); (case hh => assumption); (case he => exact rfl))
  | with_reducible refine L2.My.w_xf ?_ | with_reducible refine L2.My.w_stoE ?_ | with_reducible refine L2.My.w_mkC ?_ | with_reducible refine L2.My.w_meth ?_
  | with_reducible refine L2.My.w_forT ?_ | with_reducible refine L2.My.w_forL ?_ | with_reducible refine L2.My.w_forR ?_ | with_reducible refine L2.My.w_forR2 ?_ | with_reducible refine L2.My.w_forZ ?_ | with_reducible refine L2.My.w_lcL ?_ | with_reducible refine L2.My.w_lcT ?_ | with_reducible refine L2.My.w_lcR ?_
  | with_reducible refine L2.My.w_ifx ?_ | with_reducible refine L2.My.w_truB ?_ | with_reducible refine L2.My.w_truI ?_
  | with_reducible refine L2.My.w_eq rfl ?_ | with_reducible refine L2.My.w_ne rfl ?_)
local macro_rules | `(tactic| walk_at "W") => `(tactic| repeat (walk_at "s"))

-- needs W27
namespace L2.My
open PySem PySem.Spec PyProof.Rows
def top (i : Nat) : Stmt := PySem.Challenge.pw_threetiles_k25_presses_judged.main.body.getD i (.Pass ⟨0, 0, 0, 0⟩)
/-- where the classes stand -/
structure Zs where
  K : PySem.W.Frag
  c_FloorError : Addr
  c_BadNumber : Addr
  c_BadBounds : Addr
  c_Root : Addr
  c_VECTORS : Addr

/-- what the top has left -/
structure Txt (Z : Zs) (mg : Str → Option Value) : Prop where
  n_isinstance : mg "isinstance" = none
  n_len : mg "len" = none
  n_tuple : mg "tuple" = none
  n_enumerate : mg "enumerate" = none
  n_list : mg "list" = none
  n_int : mg "int" = none
  n_range : mg "range" = none
  n_bool : mg "bool" = none
  n_sorted : mg "sorted" = none
  n_str : mg "str" = none
  n_max : mg "max" = none
  n_abs : mg "abs" = none
  n_min : mg "min" = none
  g_gcd : mg "gcd" = some (.builtin "math.gcd")
  g_FloorError : mg "FloorError" = some (.ref Z.c_FloorError)
  g_BadNumber : mg "BadNumber" = some (.ref Z.c_BadNumber)
  g_BadBounds : mg "BadBounds" = some (.ref Z.c_BadBounds)
  g_Root : mg "Root" = some (.ref Z.c_Root)
  g_VECTORS : mg "VECTORS" = some (.ref Z.c_VECTORS)
  d_VECTORS : KD Z.K 8 (.ref Z.c_VECTORS) (.tuple [.tuple [.int 1, .int 0], .tuple [.int 1, .int 1], .tuple [.int 0, .int 1], .tuple [.int (-1), .int 1], .tuple [.int (-1), .int 0], .tuple [.int (-1), .int (-1)], .tuple [.int 0, .int (-1)], .tuple [.int 1, .int (-1)]])
  g_MOST_BOUNDS : ∃ u, mg "MOST_BOUNDS" = some u ∧ RelV (.int 400) u
  ki : KiT Z.K Z.c_Root
  nf_top : NoAttr Z.K Z.c_Root "top"
  nf_root : NoAttr Z.K Z.c_Root "root"
  nf_bottom : NoAttr Z.K Z.c_Root "bottom"
  ow : OwnB Z.K Z.c_Root
  ra : ∃ g, PySem.W.findIn Z.K (.ref Z.c_Root) "__radd__" = some (some (.ref g))
  rs : ∃ g, PySem.W.findIn Z.K (.ref Z.c_Root) "__rsub__" = some (some (.ref g))
  rm : ∃ g, PySem.W.findIn Z.K (.ref Z.c_Root) "__rmul__" = some (some (.ref g))
  x_BadNumber : OexC Z.K Z.c_BadNumber
  xn_BadNumber : PySem.W.findIn Z.K (.ref Z.c_BadNumber) "value" = some none
  xf_BadNumber : XfC Z.K Z.c_BadNumber
  xm_BadNumber : PySem.W.exmOne Z.K (.ref Z.c_BadNumber) (.ref Z.c_BadNumber) = some true
  x_BadBounds : OexC Z.K Z.c_BadBounds
  xn_BadBounds : PySem.W.findIn Z.K (.ref Z.c_BadBounds) "index" = some none
  xf_BadBounds : XfC Z.K Z.c_BadBounds
  xm_BadBounds : PySem.W.exmOne Z.K (.ref Z.c_BadBounds) (.ref Z.c_BadBounds) = some true
theorem Txt.c_Root {Z : Zs} {mg : Str → Option Value} (T : Txt Z mg) : Cls Z.K Z.c_Root := T.ki.ty
abbrev ThI (Z : Zs) (H : Hp) (v : V) : Prop := Th Z.c_Root H v
theorem Plain.thI {Z : Zs} {H : Hp} {v : V} (h : Plain H v) : ThI Z H v := h.th
theorem thI_ty {Z : Zs} {mg : Str → Option Value} {H : Hp} {v : V} (h : ThI Z H v) (T : Txt Z mg) : ∃ t, TyX Z.K H v t ∧ PySem.W.kitOne Z.K t (.type "int") = some (isI v || isB v) ∧ PySem.W.kitOne Z.K t (.type "bool") = some (isB v) := by
  obtain ⟨t, a, b, c, _⟩ := h.ty T.ki
  exact ⟨t, a, b, c⟩
theorem thI_same {Z : Zs} {H H' : Hp} {v : V} (h : ThI Z H v) (s : Same H H') : ThI Z H' v := h.same s
variable {P : Program} {w : World} {mg : Str → Option Value} {base : Heap} {Z : Zs}
abbrev s_is_integral : Stmt := top 7
theorem sc_is_integral : FnScope ["thing"] ["thing"] (defScope s_is_integral) := ⟨rfl, rfl, rfl, by decide +kernel, rfl, by decide +kernel, by decide +kernel⟩

def sp_is_integral (Z : Zs) : Sp := fun vs H Q E =>
  ∃ v, vs = [v] ∧ ThI Z H v ∧ Q (.bl (isI v)) H
theorem ok_is_integral (T : Txt Z mg)  (D : AtF Z.K mg "is_integral" "is_integral" s_is_integral ["thing"]) : Has P w Z.K mg base "is_integral" 1 ["thing"] (sp_is_integral Z) := by
  refine D.ok sc_is_integral (fun vs H Q E h => ?_) (fun cdv A outer s H vs Q E hr h => ?_)
  · obtain ⟨v, rfl, _⟩ := h
    rfl
  · refine ⟨_, (pss_one (ps_ret (pe_and (pe_callB call_isi rfl T.n_isinstance (by decide +kernel) (pa_cons (pv 0) (pa_cons (pe_bltn (v := .ty "int") rfl T.n_int (by decide +kernel) rfl) pa_nil))) (pe_one (pe_not (pe_callB call_isi rfl T.n_isinstance (by decide +kernel) (pa_cons (pv 0) (pa_cons (pe_bltn (v := .ty "bool") rfl T.n_bool (by decide +kernel) rfl) pa_nil)))))))), ?_⟩
    try simp only [cxOf]
    obtain ⟨v, rfl, hv, q⟩ := h
    obtain ⟨t, ty, k1, k2⟩ := thI_ty hv T
    walk_at "W"
    refine w_isi ty k1 ?_
    walk_at "W"
    cases e : isI v || isB v
    · walk_at "W"
      have : isI v = false := by cases v <;> simp_all [isI, isB]
      rw [this] at q; exact q
    · walk_at "W"
      refine w_isi ty k2 ?_
      walk_at "W"
      have : (!isB v) = isI v := by cases v <;> simp_all [isI, isB]
      rw [this]; exact q
abbrev s_BadBounds_init : Stmt := inClass (top 5) 0
theorem sc_BadBounds_init : FnScope ["self", "index"] ["self", "index"] (defScope s_BadBounds_init) := ⟨rfl, rfl, rfl, by decide +kernel, rfl, by decide +kernel, by decide +kernel⟩

def sp_BadBounds_init (Z : Zs) : Sp := fun vs H Q E =>
  spX Z.c_BadBounds "index" vs H Q E
theorem ok_BadBounds_init (T : Txt Z mg)  (D : AtX Z.K mg "BadBounds" Z.c_BadBounds "BadBounds.__init__" s_BadBounds_init ["self", "index"]) : HasX P w Z.K mg base "BadBounds" Z.c_BadBounds 1 ["self", "index"] (sp_BadBounds_init Z) := by
  refine D.ok sc_BadBounds_init (fun vs H Q E h => ?_) (fun cdv A outer s H vs Q E hr h => ?_)
  · obtain ⟨a, v, rfl, _⟩ := h
    rfl
  · refine ⟨_, (pss_one (ps_ost (pv 0) (pv 1))), ?_⟩
    try simp only [cxOf]
    obtain ⟨a, v, rfl, ha, q⟩ := h
    exact ⟨_, rfl, _, rfl, a, Z.c_BadBounds, rfl, T.x_BadBounds, T.xn_BadBounds, Or.inl ⟨ha, fun d hd hn => q d hd hn⟩⟩
abbrev s_BadNumber_init : Stmt := inClass (top 4) 0
theorem sc_BadNumber_init : FnScope ["self", "value"] ["self", "value"] (defScope s_BadNumber_init) := ⟨rfl, rfl, rfl, by decide +kernel, rfl, by decide +kernel, by decide +kernel⟩

def sp_BadNumber_init (Z : Zs) : Sp := fun vs H Q E =>
  spX Z.c_BadNumber "value" vs H Q E
theorem ok_BadNumber_init (T : Txt Z mg)  (D : AtX Z.K mg "BadNumber" Z.c_BadNumber "BadNumber.__init__" s_BadNumber_init ["self", "value"]) : HasX P w Z.K mg base "BadNumber" Z.c_BadNumber 1 ["self", "value"] (sp_BadNumber_init Z) := by
  refine D.ok sc_BadNumber_init (fun vs H Q E h => ?_) (fun cdv A outer s H vs Q E hr h => ?_)
  · obtain ⟨a, v, rfl, _⟩ := h
    rfl
  · refine ⟨_, (pss_one (ps_ost (pv 0) (pv 1))), ?_⟩
    try simp only [cxOf]
    obtain ⟨a, v, rfl, ha, q⟩ := h
    exact ⟨_, rfl, _, rfl, a, Z.c_BadNumber, rfl, T.x_BadNumber, T.xn_BadNumber, Or.inl ⟨ha, fun d hd hn => q d hd hn⟩⟩
/-- the common divisor with the sign that the bottom shall lose -/
def sg (t r b : Int) : Int := if b < 0 then -(((t.natAbs.gcd r.natAbs).gcd b.natAbs : Nat) : Int) else (((t.natAbs.gcd r.natAbs).gcd b.natAbs : Nat) : Int)
def lowT (t r b : Int) : Int := t.fdiv (sg t r b)
def lowR (t r b : Int) : Int := r.fdiv (sg t r b)
def lowB (t r b : Int) : Int := b.fdiv (sg t r b)
/-- the first of three that is no integer, or the last one if it is 0 -/
def badOf (a b c : V) : Option V := if isI a = false then some a else if isI b = false then some b else if isI c = false then some c else if c = .int 0 then some (.int 0) else none
theorem isI_int {v : V} (h : isI v = true) : ∃ i, v = .int i := by cases v <;> simp_all [isI]
theorem sg_ne {t r b : Int} (h : b ≠ 0) : sg t r b ≠ 0 := by
  have : 0 < (t.natAbs.gcd r.natAbs).gcd b.natAbs := Nat.gcd_pos_of_pos_right _ (Int.natAbs_pos.mpr h)
  unfold sg
  split <;> omega
theorem sg_le {t r b : Int} (h : b ≠ 0) : (sg t r b).natAbs ≤ b.natAbs := by
  have : (t.natAbs.gcd r.natAbs).gcd b.natAbs ≤ b.natAbs := Nat.le_of_dvd (Int.natAbs_pos.mpr h) (Nat.gcd_dvd_right _ _)
  unfold sg
  split <;> omega
theorem sg_div {t r b x : Int} (h : b ≠ 0) (hb : Bd b) : CDivN9 x (sg t r b) :=
  ⟨sg_ne h, Nat.lt_of_lt_of_le (PySem.Flt.log2_lt_of (by decide) (Nat.lt_of_le_of_lt (sg_le h) hb)) (by decide)⟩
abbrev s_Root_init : Stmt := inClass (top 11) 0
theorem sc_Root_init : FnScope ["self", "top", "root", "bottom", "value", "shared"] ["self", "top", "root", "bottom"] (defScope s_Root_init) := ⟨rfl, rfl, rfl, by decide +kernel, rfl, by decide +kernel, by decide +kernel⟩

def sp_Root_init (Z : Zs) : Sp := fun vs H Q E =>
  ∃ p dx a b c, vs = [.ref p, a, b, c] ∧ H p = some (.ins Z.c_Root dx []) ∧ Th Z.c_Root H a ∧ Th Z.c_Root H b ∧ Th Z.c_Root H c ∧ (∀ k, c = .int k → Bd k) ∧
    (∀ i j k, a = .int i → b = .int j → c = .int k → k ≠ 0 → ∀ H', SameX p H H' → H' p = some (.ins Z.c_Root dx (rootF (lowT i j k) (lowR i j k) (lowB i j k))) → Q .non H') ∧
    (∀ v, badOf a b c = some v → ∀ d H', H d = none → SameX p H H' → H' d = some (.xd [("value", v)]) → E (.ref Z.c_BadNumber) (some d) H')
theorem ok_Root_init (T : Txt Z mg) (h_BadNumber : HasX P w Z.K mg base "BadNumber" Z.c_BadNumber 1 ["self", "value"] (sp_BadNumber_init Z)) (h_is_integral : Has P w Z.K mg base "is_integral" 1 ["thing"] (sp_is_integral Z)) (D : AtC Z.K mg "Root" Z.c_Root "Root.__init__" s_Root_init ["self", "top", "root", "bottom"]) : HasC P w Z.K mg base "Root" Z.c_Root 3 ["self", "top", "root", "bottom"] (sp_Root_init Z) := by
  refine D.ok sc_Root_init (fun vs H Q E h => ?_) (fun cdv A outer s H vs Q E hr h => ?_)
  · obtain ⟨p, dx, a, b, c, rfl, _⟩ := h
    rfl
  · refine ⟨_, (pss_cons (ps_for (passes_of rfl) rfl (pi_tup (pe_tup (pa_cons (pv 1) (pa_cons (pv 2) (pa_cons (pv 3) pa_nil))))) (pg_name (i := 4) sc_Root_init.nd rfl (Or.inl rfl)) (pss_one (ps_if (pt_not (pt_val (pe_h (E := ED E) h_is_integral hr (paW (takes_of rfl rfl rfl rfl)) (pa_cons (pv 4) pa_nil)))) (pss_one (ps_raise rfl (takes_of rfl rfl rfl rfl) (pm_h T.x_BadNumber h_BadNumber hr (pa_cons (pv 4) pa_nil)))) pss_nil)))
      (pss_cons (ps_if (pt_cmpR op_eq (pv 3) pe_int (nomark _)) (pss_one (ps_raise rfl (takes_of rfl rfl rfl rfl) (pm_h T.x_BadNumber h_BadNumber hr (pa_cons (pv 3) pa_nil)))) pss_nil)
      (pss_cons (ps_set (i := 5) sc_Root_init.nd rfl (Or.inl rfl) (pe_callBfun cr_gcd3 rfl T.g_gcd (pa_cons (pv 1) (pa_cons (pv 2) (pa_cons (pv 3) pa_nil)))))
      (pss_cons (ps_if (pt_cmpR op_lt (pv 3) pe_int (nomark _)) (pss_one (ps_set (i := 5) sc_Root_init.nd rfl (Or.inl rfl) (pe_un un_neg (pv 5)))) pss_nil)
      (pss_cons (ps_fld (pv 0) (pe_op op_fdivV (pv 1) (pv 5)) rfl)
      (pss_cons (ps_fld (pv 0) (pe_op op_fdivV (pv 2) (pv 5)) rfl)
      (pss_one (ps_fld (pv 0) (pe_op op_fdivV (pv 3) (pv 5)) rfl)))))))), ?_⟩
    try simp only [cxOf]
    obtain ⟨p, dx, a, b, c, rfl, hp, ha, hb, hc, hk, ok, er⟩ := h
    walk_at "W"
    refine k_tup rfl fun p0 H1 hp0 s1 e1 => ?_
    refine k_forT (fun i σ H' => ∃ v, σ = [some (.ref p), some a, some b, some c, v, none] ∧ Same H1 H' ∧ ∀ j x, j < i → [a, b, c][j]? = some x → isI x = true) e1 ⟨none, rfl, Same.refl _, fun j x hj => absurd hj (Nat.not_lt_zero _)⟩ (fun i σ H' ⟨_, _, s2, _⟩ => s2 _ _ e1) ?_ ?_
    · rintro i x σ H' hx ⟨v, rfl, s2, hi⟩
      have s3 := s1.trans s2
      have hxT : Th Z.c_Root H' x := by
        rcases i with _ | _ | _ | i
        · cases hx; exact ha.same s3
        · cases hx; exact hb.same s3
        · cases hx; exact hc.same s3
        · simp at hx
      have bad : isI x = false → badOf a b c = some x := fun e => by
        rcases i with _ | _ | _ | i
        · cases hx; unfold badOf; rw [if_pos e]
        · cases hx; unfold badOf; rw [if_neg (by rw [hi 0 a (by decide) rfl]; simp), if_pos e]
        · cases hx; unfold badOf; rw [if_neg (by rw [hi 0 a (by decide) rfl]; simp), if_neg (by rw [hi 1 b (by decide) rfl]; simp), if_pos e]
        · simp at hx
      walk_at "W"
      refine ⟨x, rfl, hxT, ?_⟩
      walk_at "W"
      cases e : isI x
      · walk_at "W"
        refine k_mkO fun d H2 hd s4 e4 => ?_
        exact er x (bad e) d H2 (s3.free hd) (Same.x (s3.trans s4)) e4
      · walk_at "W"
        refine ⟨_, rfl, s2, fun j y hj hy => ?_⟩
        rcases Nat.lt_or_eq_of_le (Nat.lt_succ_iff.mp hj) with h | h
        · exact hi j y h hy
        · subst h; rw [hx] at hy; cases hy; exact e
    · rintro σ H' ⟨v, rfl, s2, hi⟩
      have s3 := s1.trans s2
      obtain ⟨i, rfl⟩ := isI_int (hi 0 a (by simp) rfl)
      obtain ⟨j, rfl⟩ := isI_int (hi 1 b (by simp) rfl)
      obtain ⟨k, rfl⟩ := isI_int (hi 2 c (by simp) rfl)
      walk_at "W"
      refine w_ite (fun h => ?_) (fun h => ?_)
      · obtain rfl : k = 0 := by injection h
        walk_at "W"
        refine k_mkO fun d H2 hd s4 e4 => ?_
        exact er _ rfl d H2 (s3.free hd) (Same.x (s3.trans s4)) e4
      · have hk0 : k ≠ 0 := fun z => h (by rw [z])
        have hkb := hk k rfl
        walk_at "W"
        refine ⟨i, j, k, rfl, ?_⟩
        walk_at "W"
        have hd : ∀ x, CDivN9 x (sg i j k) := fun x => sg_div hk0 hkb
        refine w_ite (fun hn => ?_) (fun hn => ?_)
        · walk_at "W"
          have eg : sg i j k = -(((i.natAbs.gcd j.natAbs).gcd k.natAbs : Nat) : Int) := if_pos hn
          rw [← eg]
          refine w_I (hd i) ?_
          walk_at "W"
          refine w_sto (s3 _ _ hp) T.c_Root T.nf_top rfl fun H3 s5 e5 => ?_
          rw [put1] at e5
          walk_at "W"
          refine w_I (hd j) ?_
          walk_at "W"
          refine w_sto e5 T.c_Root T.nf_root rfl fun H4 s6 e6 => ?_
          rw [put2] at e6
          walk_at "W"
          refine w_I (hd k) ?_
          walk_at "W"
          refine w_sto e6 T.c_Root T.nf_bottom rfl fun H5 s7 e7 => ?_
          rw [put3] at e7
          exact ok i j k rfl rfl rfl hk0 H5 ((Same.x s3).trans (s5.trans (s6.trans s7))) e7
        · walk_at "W"
          have eg : sg i j k = (((i.natAbs.gcd j.natAbs).gcd k.natAbs : Nat) : Int) := if_neg hn
          rw [← eg]
          refine w_I (hd i) ?_
          walk_at "W"
          refine w_sto (s3 _ _ hp) T.c_Root T.nf_top rfl fun H3 s5 e5 => ?_
          rw [put1] at e5
          walk_at "W"
          refine w_I (hd j) ?_
          walk_at "W"
          refine w_sto e5 T.c_Root T.nf_root rfl fun H4 s6 e6 => ?_
          rw [put2] at e6
          walk_at "W"
          refine w_I (hd k) ?_
          walk_at "W"
          refine w_sto e6 T.c_Root T.nf_bottom rfl fun H5 s7 e7 => ?_
          rw [put3] at e7
          exact ok i j k rfl rfl rfl hk0 H5 ((Same.x s3).trans (s5.trans (s6.trans s7))) e7
/-- what == says of a number and a thing -/
def eqRt (H : Hp) (t r b : Int) : V → Bool
  | .int n => decide (r = 0) && (decide (b = 1) && decide (t = n))
  | .ref a => match H a with
    | some (.ins _ _ fs) => decide (fs = rootF t r b)
    | _ => false
  | _ => false
abbrev s_Root_eq : Stmt := inClass (top 11) 1
theorem sc_Root_eq : FnScope ["self", "other"] ["self", "other"] (defScope s_Root_eq) := ⟨rfl, rfl, rfl, by decide +kernel, rfl, by decide +kernel, by decide +kernel⟩

def sp_Root_eq (Z : Zs) : Sp := fun vs H Q E =>
  ∃ v o t r b, vs = [v, o] ∧ RootAt Z.c_Root H v t r b ∧ Th Z.c_Root H o ∧ Q (.bl (eqRt H t r b o)) H
theorem ok_Root_eq (T : Txt Z mg) (h_is_integral : Has P w Z.K mg base "is_integral" 1 ["thing"] (sp_is_integral Z)) (D : AtM Z.K Z.c_Root "__eq__" "Root.__eq__" s_Root_eq ["self", "other"]) : HasM P w Z.K mg base Z.c_Root "__eq__" 2 ["self", "other"] (sp_Root_eq Z) := by
  refine D.ok sc_Root_eq (fun vs H Q E h => ?_) (fun cdv A outer s H vs Q E hr h => ?_)
  · obtain ⟨v, o, t, r, b, rfl, _⟩ := h
    rfl
  · refine ⟨_, (pss_cons (ps_if (pt_val (pe_callB call_isi rfl T.n_isinstance (by decide +kernel) (pa_cons (pv 1) (pa_cons (pe_glob (v := .ref Z.c_Root) rfl T.g_Root rfl) pa_nil)))) (pss_one (ps_ret (pe_and (pe_cmpR op_eq (pe_fld (pv 0) rfl) (pe_fld (pv 1) rfl) (nomark _)) (pe_and (pe_cmpR op_eq (pe_fld (pv 0) rfl) (pe_fld (pv 1) rfl) (nomark _)) (pe_one (pe_cmpR op_eq (pe_fld (pv 0) rfl) (pe_fld (pv 1) rfl) (nomark _))))))) pss_nil)
      (pss_one (ps_ret (pe_and (pe_h (E := ED E) h_is_integral hr (paW (takes_of rfl rfl rfl rfl)) (pa_cons (pv 1) pa_nil)) (pe_and (pe_cmpR op_eq (pe_fld (pv 0) rfl) pe_int (nomark _)) (pe_and (pe_cmpR op_eq (pe_fld (pv 0) rfl) pe_int (nomark _)) (pe_one (pe_cmpR op_eq (pe_fld (pv 0) rfl) (pv 1) (nomark _))))))))), ?_⟩
    try simp only [cxOf]
    obtain ⟨v, o, t, r, b, rfl, ⟨a, dx, rfl, ha⟩, ho, q⟩ := h
    obtain ⟨ty, hty, k1, k2, k3, _⟩ := ho.ty T.ki
    walk_at "W"
    refine w_isiC hty k3 ?_
    walk_at "W"
    cases ho with
    | root a' dx' t' r' b' e =>
      have ic : isC Z.c_Root H (.ref a') = true := by
        show (match H a' with | some (.ins C _ _) => decide (C = Z.c_Root) | _ => false) = true
        rw [e]
        exact decide_eq_true rfl
      have er : eqRt H t r b (.ref a') = (decide (t = t') && (decide (r = r') && decide (b = b'))) := by
        show (match H a' with | some (.ins _ _ fs) => decide (fs = rootF t r b) | _ => false) = _
        rw [e]
        simp only [rf_eq, Bool.decide_and]
        rw [decide_eq_decide.mpr (eq_comm (a := t') (b := t)), decide_eq_decide.mpr (eq_comm (a := r') (b := r)), decide_eq_decide.mpr (eq_comm (a := b') (b := b))]
      rw [ic]
      rw [er] at q
      walk_at "W"
      refine w_fld ha T.c_Root T.nf_top (rf_top _ _ _) ?_
      walk_at "W"
      refine w_fld e T.c_Root T.nf_top (rf_top _ _ _) ?_
      walk_at "W"
      rw [decide_eq_decide.mpr (show V.int t = V.int t' ↔ t = t' by simp)]
      cases h1 : decide (t = t')
      · walk_at "W"
        rw [h1] at q
        exact q
      walk_at "W"
      refine w_fld ha T.c_Root T.nf_root (rf_root _ _ _) ?_
      walk_at "W"
      refine w_fld e T.c_Root T.nf_root (rf_root _ _ _) ?_
      walk_at "W"
      rw [decide_eq_decide.mpr (show V.int r = V.int r' ↔ r = r' by simp)]
      cases h2 : decide (r = r')
      · walk_at "W"
        rw [h1, h2] at q
        exact q
      walk_at "W"
      refine w_fld ha T.c_Root T.nf_bottom (rf_bottom _ _ _) ?_
      walk_at "W"
      refine w_fld e T.c_Root T.nf_bottom (rf_bottom _ _ _) ?_
      walk_at "W"
      rw [decide_eq_decide.mpr (show V.int b = V.int b' ↔ b = b' by simp)]
      rw [h1, h2] at q
      exact q
    | int n =>
      walk_at "W"
      refine ⟨_, rfl, .int n, ?_⟩
      walk_at "W"
      refine w_fld ha T.c_Root T.nf_root (rf_root _ _ _) ?_
      walk_at "W"
      have q' : Q (.bl (decide (r = 0) && (decide (b = 1) && decide (t = n)))) H := q
      rw [decide_eq_decide.mpr (show V.int r = V.int 0 ↔ r = 0 by simp)]
      cases h1 : decide (r = 0)
      · walk_at "W"
        rw [h1] at q'
        exact q'
      walk_at "W"
      refine w_fld ha T.c_Root T.nf_bottom (rf_bottom _ _ _) ?_
      walk_at "W"
      rw [decide_eq_decide.mpr (show V.int b = V.int 1 ↔ b = 1 by simp)]
      cases h2 : decide (b = 1)
      · walk_at "W"
        rw [h1, h2] at q'
        exact q'
      walk_at "W"
      refine w_fld ha T.c_Root T.nf_top (rf_top _ _ _) ?_
      walk_at "W"
      rw [decide_eq_decide.mpr (show V.int t = V.int n ↔ t = n by simp)]
      rw [h1, h2] at q'
      exact q'
    | non => walk_at "W"; exact ⟨_, rfl, .non, by walk_at "W"; exact q⟩
    | bl y => walk_at "W"; exact ⟨_, rfl, .bl y, by walk_at "W"; exact q⟩
    | str y => walk_at "W"; exact ⟨_, rfl, .str y, by walk_at "W"; exact q⟩
    | lst a' xs e =>
      have ic : isC Z.c_Root H (.ref a') = false := by unfold isC; simp only [e]
      have er : eqRt H t r b (.ref a') = false := by unfold eqRt; simp only [e]
      rw [ic]; rw [er] at q
      walk_at "W"; exact ⟨_, rfl, .lst a' xs e, by walk_at "W"; exact q⟩
    | tup a' xs e =>
      have ic : isC Z.c_Root H (.ref a') = false := by unfold isC; simp only [e]
      have er : eqRt H t r b (.ref a') = false := by unfold eqRt; simp only [e]
      rw [ic]; rw [er] at q
      walk_at "W"; exact ⟨_, rfl, .tup a' xs e, by walk_at "W"; exact q⟩
    | dK a' xs e =>
      have ic : isC Z.c_Root H (.ref a') = false := by unfold isC; simp only [e]
      have er : eqRt H t r b (.ref a') = false := by unfold eqRt; simp only [e]
      rw [ic]; rw [er] at q
      walk_at "W"; exact ⟨_, rfl, .dK a' xs e, by walk_at "W"; exact q⟩
/-- Root(a, b, c) of any things, from its __init__'s promise -/
theorem k_mkRoot {a b c : V} {H : Hp} {Q : VK} {E : XK} (ha : Th Z.c_Root H a) (hb : Th Z.c_Root H b) (hc : Th Z.c_Root H c) (hk : ∀ k, c = .int k → Bd k)
    (ok : ∀ i j k, a = .int i → b = .int j → c = .int k → k ≠ 0 → ∀ v H', Same H H' → RootAt Z.c_Root H' v (lowT i j k) (lowR i j k) (lowB i j k) → Q v H')
    (er : ∀ v, badOf a b c = some v → ∀ d H', H d = none → Same H H' → H' d = some (.xd [("value", v)]) → E (.ref Z.c_BadNumber) (some d) H') : MkC Z.c_Root (sp_Root_init Z) E [a, b, c] H Q := by
  intro x dx nx ndx nex
  have s0 : Same H (upd (upd H dx (.own x)) x (.ins Z.c_Root dx [])) := fun b o e => by
    rw [upd_ne (ne_of_none e nx), upd_ne (ne_of_none e ndx)]; exact e
  have sx : ∀ H', SameX x (upd (upd H dx (.own x)) x (.ins Z.c_Root dx [])) H' → Same H H' := fun H' s b o e => s b o (ne_of_none e nx) (s0 b o e)
  refine ⟨x, dx, a, b, c, rfl, upd_same, ha.same s0, hb.same s0, hc.same s0, hk, fun i j k e1 e2 e3 n H' s e => ⟨rfl, ok i j k e1 e2 e3 n _ H' (sx H' s) ⟨x, dx, rfl, e⟩⟩, fun v e d H' hd s ed => er v e d H' ?_ (sx H' s) ed⟩
  cases q : H d with
  | none => rfl
  | some o => rw [s0 d o q] at hd; cases hd
/-- .. of three ints, the last one not 0 -/
theorem k_mkRootI {i j k : Int} {H : Hp} {Q : VK} {E : XK} (n : k ≠ 0) (hk : Bd k)
    (ok : ∀ v H', Same H H' → RootAt Z.c_Root H' v (lowT i j k) (lowR i j k) (lowB i j k) → Q v H') : MkC Z.c_Root (sp_Root_init Z) E [.int i, .int j, .int k] H Q :=
  k_mkRoot (.int i) (.int j) (.int k) (fun k' e => by injection e with e; rw [← e]; exact hk) (fun i' j' k' e1 e2 e3 _ => by injection e1 with e1; injection e2 with e2; injection e3 with e3; rw [← e1, ← e2, ← e3]; exact ok)
    (fun v e => by
      exfalso
      unfold badOf at e
      rw [if_neg (by simp [isI]), if_neg (by simp [isI]), if_neg (by simp [isI]), if_neg (by intro z; injection z with z; exact n z)] at e
      cases e)
abbrev s_Root_neg : Stmt := inClass (top 11) 8
theorem sc_Root_neg : FnScope ["self"] ["self"] (defScope s_Root_neg) := ⟨rfl, rfl, rfl, by decide +kernel, rfl, by decide +kernel, by decide +kernel⟩

def sp_Root_neg (Z : Zs) : Sp := fun vs H Q E =>
  ∃ v t r b, vs = [v] ∧ RootAt Z.c_Root H v t r b ∧ b ≠ 0 ∧ Bd b ∧ ∀ v' H', Same H H' → RootAt Z.c_Root H' v' (lowT (-t) (-r) b) (lowR (-t) (-r) b) (lowB (-t) (-r) b) → Q v' H'
theorem ok_Root_neg (T : Txt Z mg) (h_Root : HasC P w Z.K mg base "Root" Z.c_Root 3 ["self", "top", "root", "bottom"] (sp_Root_init Z)) (D : AtM Z.K Z.c_Root "__neg__" "Root.__neg__" s_Root_neg ["self"]) : HasM P w Z.K mg base Z.c_Root "__neg__" 5 ["self"] (sp_Root_neg Z) := by
  refine D.ok sc_Root_neg (fun vs H Q E h => ?_) (fun cdv A outer s H vs Q E hr h => ?_)
  · obtain ⟨v, t, r, b, rfl, _⟩ := h
    rfl
  · refine ⟨_, (pss_one (ps_ret (pe_hc (E := ED E) h_Root hr (paW (takes_of rfl rfl rfl rfl)) (pa_cons (pe_un un_neg (pe_fld (pv 0) rfl)) (pa_cons (pe_un un_neg (pe_fld (pv 0) rfl)) (pa_cons (pe_fld (pv 0) rfl) pa_nil)))))), ?_⟩
    try simp only [cxOf]
    obtain ⟨v, t, r, b, rfl, ⟨a, dx, rfl, ha⟩, hb, hk, q⟩ := h
    walk_at "W"
    refine w_fld ha T.c_Root T.nf_top (rf_top _ _ _) ?_
    walk_at "W"
    refine w_fld ha T.c_Root T.nf_root (rf_root _ _ _) ?_
    walk_at "W"
    refine w_fld ha T.c_Root T.nf_bottom (rf_bottom _ _ _) ?_
    walk_at "W"
    exact k_mkRootI hb hk q
local macro_rules | `(tactic| walk_at "bw") => `(tactic| first | assumption | exact L2.My.Bw.two | exact L2.My.Bw.zero | exact L2.My.Bw.one | ((refine' L2.My.Bw.mul ?hx ?hy); (case hx => walk_at "bw"); (case hy => walk_at "bw")) | ((refine' L2.My.Bw.add ?hx ?hy); (case hx => walk_at "bw"); (case hy => walk_at "bw")) | ((refine' L2.My.Bw.sub ?hx ?hy); (case hx => walk_at "bw"); (case hy => walk_at "bw")) | ((refine' L2.My.Bw.neg ?hx); (case hx => walk_at "bw")))
local macro_rules | `(tactic| walk_at "mul") => `(tactic| ((refine' L2.My.w_I (L2.My.bwm (m := ?m) (n := ?n) ?hx ?hy ?hm) ?_); (case hx => walk_at "bw"); (case hy => walk_at "bw"); (case hm => decide)))
/-- what two numbers make -/
structure F3 where
  t : Int → Int → Int → Int → Int → Int → Int
  r : Int → Int → Int → Int → Int → Int → Int
  b : Int → Int → Int → Int → Int → Int → Int
def plus : F3 := ⟨fun t _ b t' _ b' => t * b' + t' * b, fun _ r b _ r' b' => r * b' + r' * b, fun _ _ b _ _ b' => b * b'⟩
def minus : F3 := ⟨fun t _ b t' _ b' => t * b' - t' * b, fun _ r b _ r' b' => r * b' - r' * b, fun _ _ b _ _ b' => b * b'⟩
def times : F3 := ⟨fun t r _ t' r' _ => t * t' + 2 * r * r', fun t r _ t' r' _ => t * r' + r * t', fun _ _ b _ _ b' => b * b'⟩
/-- other minus one -/
def back (F : F3) : F3 := ⟨fun t r b t' r' b' => F.t t' r' b' t r b, fun t r b t' r' b' => F.r t' r' b' t r b, fun t r b t' r' b' => F.b t' r' b' t r b⟩
/-- three parts that are not too great -/
def B3 (t r b : Int) : Prop := Bw 1000 t ∧ Bw 1000 r ∧ Bw 1000 b
def T3 (H : Hp) (p : Addr) (t r b : Int) : Prop := H p = some (.tup [.int t, .int r, .int b])
def spTwo (F : F3) : Sp := fun vs H Q _ => ∃ p p' t r b t' r' b', vs = [.ref p, .ref p'] ∧ T3 H p t r b ∧ T3 H p' t' r' b' ∧ B3 t r b ∧ B3 t' r' b' ∧
  ∀ u H', H u = none → Same H H' → T3 H' u (F.t t r b t' r' b') (F.r t r b t' r' b') (F.b t r b t' r' b') → Q (.ref u) H'
/-! ### lowest terms -/
theorem fdiv_exact {g x : Int} (h : g ≠ 0) (d : g ∣ x) : x.fdiv g * g = x := by
  obtain ⟨c, rfl⟩ := d
  rw [Int.mul_comm g c, Int.mul_fdiv_cancel _ h]
theorem sg_dvd (t r b : Int) : sg t r b ∣ t ∧ sg t r b ∣ r ∧ sg t r b ∣ b := by
  have h1 : (((t.natAbs.gcd r.natAbs).gcd b.natAbs : Nat) : Int) ∣ t := Int.ofNat_dvd_left.mpr (Nat.dvd_trans (Nat.gcd_dvd_left _ _) (Nat.gcd_dvd_left _ _))
  have h2 : (((t.natAbs.gcd r.natAbs).gcd b.natAbs : Nat) : Int) ∣ r := Int.ofNat_dvd_left.mpr (Nat.dvd_trans (Nat.gcd_dvd_left _ _) (Nat.gcd_dvd_right _ _))
  have h3 : (((t.natAbs.gcd r.natAbs).gcd b.natAbs : Nat) : Int) ∣ b := Int.ofNat_dvd_left.mpr (Nat.gcd_dvd_right _ _)
  unfold sg
  split
  · exact ⟨Int.neg_dvd.mpr h1, Int.neg_dvd.mpr h2, Int.neg_dvd.mpr h3⟩
  · exact ⟨h1, h2, h3⟩
/-- t r b are x y z, each times one number that is not 0, z is above 0 and no number above 1 divides x, y, z -/
structure Low (t r b x y z : Int) : Prop where
  s : ∃ s : Int, s ≠ 0 ∧ t = x * s ∧ r = y * s ∧ b = z * s
  pos : 0 < z
  one : (x.natAbs.gcd y.natAbs).gcd z.natAbs = 1
theorem low_is {t r b : Int} (h : b ≠ 0) : Low t r b (lowT t r b) (lowR t r b) (lowB t r b) := by
  have hs := sg_ne (t := t) (r := r) h
  obtain ⟨d1, d2, d3⟩ := sg_dvd t r b
  have e1 := fdiv_exact hs d1
  have e2 := fdiv_exact hs d2
  have e3 := fdiv_exact hs d3
  refine ⟨⟨_, hs, e1.symm, e2.symm, e3.symm⟩, ?_, ?_⟩
  · have hz : lowB t r b * sg t r b = b := e3
    have hsg : (b < 0 → sg t r b < 0) ∧ (¬ b < 0 → 0 < sg t r b) := by
      have : 0 < (t.natAbs.gcd r.natAbs).gcd b.natAbs := Nat.gcd_pos_of_pos_right _ (Int.natAbs_pos.mpr h)
      unfold sg
      constructor <;> intro hb <;> simp only [hb, if_true, if_false] <;> omega
    rcases Int.lt_trichotomy (lowB t r b) 0 with z | z | z
    · exfalso
      by_cases hb : b < 0
      · have := Int.mul_pos_of_neg_of_neg z (hsg.1 hb); omega
      · have := Int.mul_neg_of_neg_of_pos z (hsg.2 hb); omega
    · rw [z] at hz; omega
    · exact z
  · have hg : 0 < (t.natAbs.gcd r.natAbs).gcd b.natAbs := Nat.gcd_pos_of_pos_right _ (Int.natAbs_pos.mpr h)
    have hn : (sg t r b).natAbs = (t.natAbs.gcd r.natAbs).gcd b.natAbs := by unfold sg; split <;> omega
    have f1 : t.natAbs = (lowT t r b).natAbs * (sg t r b).natAbs := by rw [← Int.natAbs_mul]; exact congrArg _ e1.symm
    have f2 : r.natAbs = (lowR t r b).natAbs * (sg t r b).natAbs := by rw [← Int.natAbs_mul]; exact congrArg _ e2.symm
    have f3 : b.natAbs = (lowB t r b).natAbs * (sg t r b).natAbs := by rw [← Int.natAbs_mul]; exact congrArg _ e3.symm
    have : (((lowT t r b).natAbs.gcd (lowR t r b).natAbs).gcd (lowB t r b).natAbs) * (sg t r b).natAbs = 1 * (sg t r b).natAbs := by
      rw [← Nat.gcd_mul_right, ← Nat.gcd_mul_right, ← f1, ← f2, ← f3, Nat.one_mul, hn]
    exact Nat.eq_of_mul_eq_mul_right (by rw [hn]; exact hg) this
/-- lowest terms are told by the number alone -/
theorem Low.uniq {t r b x y z x' y' z' : Int} (h : Low t r b x y z) (h' : Low t r b x' y' z') : x = x' ∧ y = y' ∧ z = z' := by
  obtain ⟨⟨s, hs, a1, a2, a3⟩, p, o⟩ := h
  obtain ⟨⟨s', hs', b1, b2, b3⟩, p', o'⟩ := h'
  have k : ∀ {x y z s x' y' z' s' : Int}, x * s = x' * s' → y * s = y' * s' → z * s = z' * s' → ((x.natAbs.gcd y.natAbs).gcd z.natAbs) * s.natAbs = ((x'.natAbs.gcd y'.natAbs).gcd z'.natAbs) * s'.natAbs := fun {x y z s x' y' z' s'} h1 h2 h3 => by
    rw [← Nat.gcd_mul_right, ← Nat.gcd_mul_right, ← Nat.gcd_mul_right, ← Nat.gcd_mul_right, ← Int.natAbs_mul, ← Int.natAbs_mul, ← Int.natAbs_mul, ← Int.natAbs_mul, ← Int.natAbs_mul, ← Int.natAbs_mul, h1, h2, h3]
  have e := k (a1.symm.trans b1) (a2.symm.trans b2) (a3.symm.trans b3)
  rw [o, o', Nat.one_mul, Nat.one_mul] at e
  have ez : z * s = z' * s' := a3.symm.trans b3
  have es : s = s' := by
    rcases Int.natAbs_eq_natAbs_iff.mp e with q | q
    · exact q
    · exfalso
      rw [q, Int.mul_neg] at ez
      have : (z + z') * s' = 0 := by rw [Int.add_mul, ← ez]; omega
      rcases Int.mul_eq_zero.mp this with w | w
      · omega
      · exact hs' w
  subst es
  exact ⟨Int.eq_of_mul_eq_mul_right hs (a1.symm.trans b1), Int.eq_of_mul_eq_mul_right hs (a2.symm.trans b2), Int.eq_of_mul_eq_mul_right hs ez⟩
theorem Low.eqs {t r b x y z : Int} (h : Low t r b x y z) (hb : b ≠ 0) : x = lowT t r b ∧ y = lowR t r b ∧ z = lowB t r b := h.uniq (low_is hb)
theorem Low.zle {t r b x y z : Int} (h : Low t r b x y z) : z.natAbs ≤ b.natAbs := by
  obtain ⟨⟨s, hs, _, _, e⟩, _, _⟩ := h
  rw [e, Int.natAbs_mul]
  exact Nat.le_mul_of_pos_right _ (Int.natAbs_pos.mpr hs)
theorem Low.self {t r b x y z : Int} (h : Low t r b x y z) : Low x y z x y z := ⟨⟨1, by decide, by simp, by simp, by simp⟩, h.pos, h.one⟩
theorem Low.scale {t r b x y z : Int} (h : Low t r b x y z) {f : Int} (hf : f ≠ 0) : Low (t * f) (r * f) (b * f) x y z := by
  obtain ⟨⟨s, hs, a1, a2, a3⟩, p, o⟩ := h
  exact ⟨⟨s * f, Int.mul_ne_zero hs hf, by rw [a1, Int.mul_assoc], by rw [a2, Int.mul_assoc], by rw [a3, Int.mul_assoc]⟩, p, o⟩
theorem Low.turned {t r b x y z : Int} (h : Low t r b x y z) : Low t (-r) b x (-y) z := by
  obtain ⟨⟨s, hs, a1, a2, a3⟩, p, o⟩ := h
  exact ⟨⟨s, hs, a1, by rw [a2, Int.neg_mul], a3⟩, p, by rw [Int.natAbs_neg]; exact o⟩
theorem Low.neg {t r b x y z : Int} (h : Low t r b x y z) : Low (-t) (-r) b (-x) (-y) z := by
  obtain ⟨⟨s, hs, a1, a2, a3⟩, p, o⟩ := h
  exact ⟨⟨s, hs, by rw [a1, Int.neg_mul], by rw [a2, Int.neg_mul], a3⟩, p, by rw [Int.natAbs_neg, Int.natAbs_neg]; exact o⟩
theorem Low.far {t r b x y z x' y' z' : Int} (h : Low t r b x y z) (h' : Low (t + b) r b x' y' z') (hb : b ≠ 0) : ¬ (x' = x ∧ y' = y ∧ z' = z) := by
  rintro ⟨rfl, rfl, rfl⟩
  obtain ⟨⟨s, hs, a1, a2, a3⟩, p, o⟩ := h
  obtain ⟨⟨s', hs', b1, b2, b3⟩, _, _⟩ := h'
  have : s = s' := Int.eq_of_mul_eq_mul_left (by omega) (a3.symm.trans b3)
  subst this
  rw [← a1] at b1
  omega
theorem Low.aside {t r b x y z x' y' z' : Int} (h : Low t r b x y z) (h' : Low t (r + 1) b x' y' z') : ¬ (x' = x ∧ y' = y ∧ z' = z) := by
  rintro ⟨rfl, rfl, rfl⟩
  obtain ⟨⟨s, hs, a1, a2, a3⟩, p, o⟩ := h
  obtain ⟨⟨s', hs', b1, b2, b3⟩, _, _⟩ := h'
  have : s = s' := Int.eq_of_mul_eq_mul_left (by omega) (a3.symm.trans b3)
  subst this
  rw [← a2] at b2
  omega
theorem Low.whole {t r b x y z : Int} (h : Low t r b x y z) (w : Int) : (y = 0 ∧ z = 1 ∧ x = w) ↔ (r = 0 ∧ t = w * b) := by
  obtain ⟨⟨s, hs, a1, a2, a3⟩, p, o⟩ := h
  constructor
  · rintro ⟨rfl, rfl, rfl⟩
    rw [Int.one_mul] at a3
    rw [a3]
    exact ⟨by rw [a2, Int.zero_mul], a1⟩
  · rintro ⟨hr, ht⟩
    have hy : y = 0 := by
      rcases Int.mul_eq_zero.mp (a2.symm.trans hr) with q | q
      · exact q
      · exact absurd q hs
    have hx : x = w * z := by
      rw [a1, a3, ← Int.mul_assoc] at ht
      exact Int.eq_of_mul_eq_mul_right hs ht
    subst hy
    rw [hx, Int.natAbs_zero, Nat.gcd_zero_right, Int.natAbs_mul, Nat.gcd_mul_left_left] at o
    have : z = 1 := by omega
    subst this
    exact ⟨rfl, rfl, by rw [hx, Int.mul_one]⟩
theorem eqRt_root {H : Hp} {t r b t' r' b' : Int} {v : V} {c : Addr} (h : RootAt c H v t' r' b') : eqRt H t r b v = decide (t' = t ∧ r' = r ∧ b' = b) := by
  obtain ⟨a, dx, rfl, e⟩ := h
  unfold eqRt
  simp only [e, rf_eq]
theorem RootAt.th {c : Addr} {H : Hp} {v : V} {t r b : Int} (h : RootAt c H v t r b) : Th c H v := by
  obtain ⟨a, dx, rfl, e⟩ := h
  exact .root a dx t r b e
theorem RootAt.sx {c st sc : Addr} {H H' : Hp} {v : V} {t r b : Int} (h : RootAt c H v t r b) (hs : StA H st sc) (s : SameX st H H') : RootAt c H' v t r b := by
  obtain ⟨a, dx, rfl, e⟩ := h
  exact ⟨a, dx, rfl, s _ _ (hs.ne e (by intro xs z; cases z)) e⟩
theorem k_eqC {mg : Str → Option Value} (T : Txt Z mg) {H : Hp} {Q : VK} {E : XK} {x y : V} {t r b : Int} (hx : RootAt Z.c_Root H x t r b) (hy : Th Z.c_Root H y) (q : Q (.bl (eqRt H t r b y)) H) : rOwnC Z.K Z.c_Root (sp_Root_eq Z) E x y H Q := by
  obtain ⟨a, dx, rfl, e⟩ := hx
  obtain ⟨ty, hty, _, _, _, nf⟩ := hy.ty T.ki
  exact ⟨a, dx, _, ty, rfl, e, hty, nf, _, _, t, r, b, rfl, ⟨a, dx, rfl, e⟩, hy, q⟩
theorem k_eqR {mg : Str → Option Value} (T : Txt Z mg) {H : Hp} {Q : VK} {E : XK} {x y : V} {t r b : Int} (hy : RootAt Z.c_Root H y t r b) (hx : (∃ i, x = .int i) ∨ ∃ b, x = .bl b) (q : Q (.bl (eqRt H t r b x)) H) : rOwnR Z.K Z.c_Root (sp_Root_eq Z) E x y H Q := by
  obtain ⟨a, dx, rfl, e⟩ := hy
  rcases hx with ⟨i, rfl⟩ | ⟨c, rfl⟩
  · exact ⟨a, dx, _, rfl, e, .inl ⟨⟨i, rfl⟩, T.ki.s1⟩, _, _, t, r, b, rfl, ⟨a, dx, rfl, e⟩, .int i, q⟩
  · exact ⟨a, dx, _, rfl, e, .inr ⟨⟨c, rfl⟩, T.ki.s2⟩, _, _, t, r, b, rfl, ⟨a, dx, rfl, e⟩, .bl c, q⟩
/-- a number, as a Root or as an int -/
def NumAt (c : Addr) (H : Hp) (v : V) (t r b : Int) : Prop := RootAt c H v t r b ∨ ∃ i, v = .int i ∧ t = i ∧ r = 0 ∧ b = 1
/-- its parts are not too great, the bottom is not 0 -/
structure Sm (t r b : Int) : Prop where
  ht : Bw 1000 t
  hr : Bw 1000 r
  hb : Bw 1000 b
  lw : Low t r b t r b
theorem Sm.hn {t r b : Int} (h : Sm t r b) : b ≠ 0 := by have := h.lw.pos; omega
theorem bw_div {n : Nat} {x y s : Int} (h : Bw n x) (e : x = y * s) (hs : s ≠ 0) : Bw n y := by
  unfold Bw at *
  rw [e, Int.natAbs_mul] at h
  exact Nat.lt_of_le_of_lt (Nat.le_mul_of_pos_right _ (Int.natAbs_pos.mpr hs)) h
theorem Sm.low {t r b : Int} (hb : b ≠ 0) (bt : Bw 1000 t) (br : Bw 1000 r) (bb : Bw 1000 b) : Sm (lowT t r b) (lowR t r b) (lowB t r b) := by
  have l := low_is (t := t) (r := r) hb
  obtain ⟨s, hs, e1, e2, e3⟩ := l.s
  exact ⟨bw_div bt e1 hs, bw_div br e2 hs, bw_div bb e3 hs, l.self⟩
theorem low_congr {t r b t' r' b' s : Int} (hb : b' ≠ 0) (hs : s ≠ 0) (e1 : t = t' * s) (e2 : r = r' * s) (e3 : b = b' * s) : lowT t r b = lowT t' r' b' ∧ lowR t r b = lowR t' r' b' ∧ lowB t r b = lowB t' r' b' := by
  have l := (low_is (t := t') (r := r') hb).scale hs
  rw [← e1, ← e2, ← e3] at l
  obtain ⟨a, b, c⟩ := l.eqs (by rw [e3]; exact Int.mul_ne_zero hb hs)
  exact ⟨a.symm, b.symm, c.symm⟩
/-- a Root that is (t + r * root) / b in lowest terms -/
def LowAt (c : Addr) (H : Hp) (v : V) (t r b : Int) : Prop := RootAt c H v (lowT t r b) (lowR t r b) (lowB t r b)
theorem LowAt.congr {c : Addr} {H : Hp} {v : V} {t r b t' r' b' s : Int} (h : LowAt c H v t r b) (hb : b' ≠ 0) (hs : s ≠ 0) (e1 : t = t' * s) (e2 : r = r' * s) (e3 : b = b' * s) : LowAt c H v t' r' b' := by
  obtain ⟨a, b, c⟩ := low_congr hb hs e1 e2 e3
  unfold LowAt at *
  rw [← a, ← b, ← c]
  exact h
theorem LowAt.congr' {c : Addr} {H : Hp} {v : V} {t r b t' r' b' s : Int} (h : LowAt c H v t r b) (hb : b ≠ 0) (hs : s ≠ 0) (e1 : t' = t * s) (e2 : r' = r * s) (e3 : b' = b * s) : LowAt c H v t' r' b' := by
  obtain ⟨a, b, c⟩ := low_congr hb hs e1 e2 e3
  unfold LowAt at *
  rw [a, b, c]
  exact h
def spBin (c : Addr) (F : F3) : Sp := fun vs H Q _ => ∃ v o t r b t' r' b', vs = [v, o] ∧ RootAt c H v t r b ∧ Sm t r b ∧ NumAt c H o t' r' b' ∧ Sm t' r' b' ∧
  ∀ v' H', Same H H' → LowAt c H' v' (F.t t r b t' r' b') (F.r t r b t' r' b') (F.b t r b t' r' b') → Q v' H'
def isN (c : Addr) (H : Hp) (v : V) : Bool := isC c H v || isI v
theorem RootAt.isC {c : Addr} {H : Hp} {v : V} {t r b : Int} (h : RootAt c H v t r b) : isC c H v = true := by
  obtain ⟨a, dx, rfl, e⟩ := h
  show (match H a with | some (.ins C _ _) => decide (C = c) | _ => false) = true
  rw [e]
  exact decide_eq_true rfl
theorem NumAt.th {c : Addr} {H : Hp} {v : V} {t r b : Int} (h : NumAt c H v t r b) : Th c H v := by
  rcases h with ⟨a, dx, rfl, e⟩ | ⟨i, rfl, _⟩
  · exact .root a dx t r b e
  · exact .int i
theorem NumAt.isN {c : Addr} {H : Hp} {v : V} {t r b : Int} (h : NumAt c H v t r b) : isN c H v = true := by
  unfold L2.My.isN
  rcases h with h | ⟨i, rfl, _⟩
  · rw [h.isC]; rfl
  · rfl
theorem NumAt.same {c : Addr} {H H' : Hp} {v : V} {t r b : Int} (h : NumAt c H v t r b) (s : Same H H') : NumAt c H' v t r b := h.imp (·.same s) id
theorem low1 (i : Int) : lowT i 0 1 = i ∧ lowR i 0 1 = 0 ∧ lowB i 0 1 = 1 := by
  have e : sg i 0 1 = 1 := by unfold sg; rw [if_neg (by decide)]; simp
  unfold lowT lowR lowB
  rw [e]
  exact ⟨Int.fdiv_one i, by decide, by decide⟩
abbrev s_is_number : Stmt := top 8
theorem sc_is_number : FnScope ["thing"] ["thing"] (defScope s_is_number) := ⟨rfl, rfl, rfl, by decide +kernel, rfl, by decide +kernel, by decide +kernel⟩

def sp_is_number (Z : Zs) : Sp := fun vs H Q E =>
  ∃ v, vs = [v] ∧ Th Z.c_Root H v ∧ Q (.bl (isN Z.c_Root H v)) H
theorem ok_is_number (T : Txt Z mg) (h_is_integral : Has P w Z.K mg base "is_integral" 1 ["thing"] (sp_is_integral Z)) (D : AtF Z.K mg "is_number" "is_number" s_is_number ["thing"]) : Has P w Z.K mg base "is_number" 2 ["thing"] (sp_is_number Z) := by
  refine D.ok sc_is_number (fun vs H Q E h => ?_) (fun cdv A outer s H vs Q E hr h => ?_)
  · obtain ⟨v, rfl, _⟩ := h
    rfl
  · refine ⟨_, (pss_one (ps_ret (pe_or (pe_callB call_isi rfl T.n_isinstance (by decide +kernel) (pa_cons (pv 0) (pa_cons (pe_glob (v := .ref Z.c_Root) rfl T.g_Root rfl) pa_nil))) (pe_one (pe_h (E := ED E) h_is_integral hr (paW (takes_of rfl rfl rfl rfl)) (pa_cons (pv 0) pa_nil)))))), ?_⟩
    try simp only [cxOf]
    obtain ⟨v, rfl, hv, q⟩ := h
    obtain ⟨ty, hty, _, _, k3, _⟩ := hv.ty T.ki
    unfold isN at q
    walk_at "W"
    refine w_isiC hty k3 ?_
    walk_at "W"
    cases e : isC Z.c_Root H v
    · rw [e] at q
      walk_at "W"
      refine ⟨v, rfl, hv, ?_⟩
      walk_at "W"
      exact q
    · rw [e] at q
      walk_at "W"
      exact q
abbrev s_as_root : Stmt := top 9
theorem sc_as_root : FnScope ["number"] ["number"] (defScope s_as_root) := ⟨rfl, rfl, rfl, by decide +kernel, rfl, by decide +kernel, by decide +kernel⟩

def sp_as_root (Z : Zs) : Sp := fun vs H Q E =>
  ∃ v t r b, vs = [v] ∧ NumAt Z.c_Root H v t r b ∧ ∀ v' H', Same H H' → RootAt Z.c_Root H' v' t r b → Q v' H'
theorem ok_as_root (T : Txt Z mg) (h_Root : HasC P w Z.K mg base "Root" Z.c_Root 3 ["self", "top", "root", "bottom"] (sp_Root_init Z)) (D : AtF Z.K mg "as_root" "as_root" s_as_root ["number"]) : Has P w Z.K mg base "as_root" 5 ["number"] (sp_as_root Z) := by
  refine D.ok sc_as_root (fun vs H Q E h => ?_) (fun cdv A outer s H vs Q E hr h => ?_)
  · obtain ⟨v, t, r, b, rfl, _⟩ := h
    rfl
  · refine ⟨_, (pss_cons (ps_if (pt_val (pe_callB call_isi rfl T.n_isinstance (by decide +kernel) (pa_cons (pv 0) (pa_cons (pe_glob (v := .ref Z.c_Root) rfl T.g_Root rfl) pa_nil)))) (pss_one (ps_ret (pv 0))) pss_nil)
      (pss_one (ps_ret (pe_hc (E := ED E) h_Root hr (paW (takes_of rfl rfl rfl rfl)) (pa_cons (pv 0) (pa_cons pe_int (pa_cons pe_int pa_nil))))))), ?_⟩
    try simp only [cxOf]
    obtain ⟨v, t, r, b, rfl, hv, q⟩ := h
    obtain ⟨ty, hty, _, _, k3, _⟩ := hv.th.ty T.ki
    walk_at "W"
    refine w_isiC hty k3 ?_
    rcases hv with hv | ⟨i, rfl, rfl, rfl, rfl⟩
    · rw [hv.isC]
      walk_at "W"
      exact q _ _ (Same.refl _) hv
    · have e : isC Z.c_Root H (.int t) = false := rfl
      rw [e]
      walk_at "W"
      refine k_mkRootI (by decide) (Bw.one.bd (by decide)) fun v' H' s hv' => ?_
      obtain ⟨e1, e2, e3⟩ := low1 t
      rw [e1, e2, e3] at hv'
      exact q _ _ s hv'
/-- the sign of t + r * the square root of 2 -/
def sgn (t r : Int) : Int :=
  if t = 0 ∧ r = 0 then 0 else if 0 ≤ t ∧ 0 ≤ r then 1 else if t ≤ 0 ∧ r ≤ 0 then -1 else if t * t > 2 * r * r then (if 0 < t then 1 else -1) else if 0 < r then 1 else -1
abbrev s_surd_sign : Stmt := top 10
theorem sc_surd_sign : FnScope ["top", "root"] ["top", "root"] (defScope s_surd_sign) := ⟨rfl, rfl, rfl, by decide +kernel, rfl, by decide +kernel, by decide +kernel⟩

def sp_surd_sign (Z : Zs) : Sp := fun vs H Q E =>
  ∃ t r : Int, vs = [.int t, .int r] ∧ Bw 3000 t ∧ Bw 3000 r ∧ Q (.int (sgn t r)) H
theorem ok_surd_sign (T : Txt Z mg)  (D : AtF Z.K mg "surd_sign" "surd_sign" s_surd_sign ["top", "root"]) : Has P w Z.K mg base "surd_sign" 1 ["top", "root"] (sp_surd_sign Z) := by
  refine D.ok sc_surd_sign (fun vs H Q E h => ?_) (fun cdv A outer s H vs Q E hr h => ?_)
  · obtain ⟨t, r, rfl, _⟩ := h
    rfl
  · refine ⟨_, (C8.pss_cut (ps_if (PW.pt (pw_and (pt_cmpR op_ge (pv 0) pe_int (nomark _)) (pw_and1 (pt_cmpR op_ge (pv 1) pe_int (nomark _))))) (pss_one (ps_ret (pe_ifExp (PW.pt (pw_or (pt_cmpR op_gt (pv 0) pe_int (nomark _)) (pw_or1 (pt_cmpR op_gt (pv 1) pe_int (nomark _))))) pe_int pe_int))) pss_nil)
      (C8.pss_cut (ps_if (PW.pt (pw_and (pt_cmpR op_le (pv 0) pe_int (nomark _)) (pw_and1 (pt_cmpR op_le (pv 1) pe_int (nomark _))))) (pss_one (ps_ret (pe_un un_neg pe_int))) pss_nil)
      (pss_cons (ps_if (pt_cmpR op_gt (pe_op op_mulS (pv 0) (pv 0)) (pe_op op_mulS (pe_op op_mulS pe_int (pv 1)) (pv 1)) (nomark _)) (pss_one (ps_ret (pe_ifExp (pt_cmpR op_gt (pv 0) pe_int (nomark _)) pe_int (pe_un un_neg pe_int)))) pss_nil)
      (pss_one (ps_ret (pe_ifExp (pt_cmpR op_gt (pv 1) pe_int (nomark _)) pe_int (pe_un un_neg pe_int))))))), ?_⟩
    try simp only [cxOf]
    obtain ⟨t, r, rfl, bt, br, q⟩ := h
    have L : ∀ {k : Int}, sgn t r = k → Q (.int k) H := fun e => e ▸ q
    have big : ¬ (t = 0 ∧ r = 0) → ¬ (0 ≤ t ∧ 0 ≤ r) → ¬ (t ≤ 0 ∧ r ≤ 0) → ∀ {k : Int}, (if t * t > 2 * r * r then (if 0 < t then 1 else -1) else if 0 < r then 1 else -1) = k → Q (.int k) H := fun n1 n2 n3 k e => L (by unfold sgn; rw [if_neg n1, if_neg n2, if_neg n3]; exact e)
    walk_at "W"
    refine w_cut (fun σ' H' => (σ' = [some (.int t), some (.int r)] ∧ H' = H) ∧ ¬ (0 ≤ t ∧ 0 ≤ r)) ?_ ?_
    · walk_at "W"
      refine w_ite (fun h1 => ?_) (fun h1 => ?_)
      · walk_at "W"
        refine w_ite (fun h2 => ?_) (fun h2 => ?_)
        · walk_at "W"
          refine w_ite (fun h3 => ?_) (fun h3 => ?_)
          · walk_at "W"
            exact L (by unfold sgn; rw [if_neg (by omega), if_pos (by omega)])
          · walk_at "W"
            refine w_ite (fun h4 => ?_) (fun h4 => ?_)
            · walk_at "W"
              exact L (by unfold sgn; rw [if_neg (by omega), if_pos (by omega)])
            · walk_at "W"
              exact L (by unfold sgn; rw [if_pos (by omega)])
        · walk_at "W"
          exact ⟨⟨rfl, rfl⟩, by omega⟩
      · walk_at "W"
        exact ⟨⟨rfl, rfl⟩, by omega⟩
    rintro σ' H' ⟨⟨rfl, rfl⟩, n2⟩
    walk_at "W"
    refine w_cut (fun σ' H1 => (σ' = [some (.int t), some (.int r)] ∧ H1 = H') ∧ ¬ (t ≤ 0 ∧ r ≤ 0)) ?_ ?_
    · walk_at "W"
      refine w_ite (fun h1 => ?_) (fun h1 => ?_)
      · walk_at "W"
        refine w_ite (fun h2 => ?_) (fun h2 => ?_)
        · walk_at "W"
          exact L (by unfold sgn; rw [if_neg (by omega), if_neg (by omega), if_pos (by omega)])
        · walk_at "W"
          exact ⟨⟨rfl, rfl⟩, by omega⟩
      · walk_at "W"
        exact ⟨⟨rfl, rfl⟩, by omega⟩
    rintro σ' H1 ⟨⟨rfl, rfl⟩, n3⟩
    walk_at "W"
    walk_at "mul"
    walk_at "W"
    walk_at "mul"
    walk_at "W"
    have go : ∀ {k : Int}, (if t * t > 2 * r * r then (if 0 < t then 1 else -1) else if 0 < r then 1 else -1) = k → Q (.int k) H1 := fun e => big (by omega) n2 n3 e
    refine w_ite (fun h1 => ?_) (fun h1 => ?_)
    · walk_at "W"
      refine w_ite (fun h2 => ?_) (fun h2 => ?_)
      · walk_at "W"
        exact go (by rw [if_pos h1, if_pos h2])
      · walk_at "W"
        exact go (by rw [if_pos h1, if_neg h2])
    · walk_at "W"
      refine w_ite (fun h2 => ?_) (fun h2 => ?_)
      · walk_at "W"
        exact go (by rw [if_neg h1, if_pos h2])
      · walk_at "W"
        exact go (by rw [if_neg h1, if_neg h2])
abbrev s_Root_add : Stmt := inClass (top 11) 2
theorem sc_Root_add : FnScope ["self", "other", "more", "top", "root"] ["self", "other"] (defScope s_Root_add) := ⟨rfl, rfl, rfl, by decide +kernel, rfl, by decide +kernel, by decide +kernel⟩

def sp_Root_add (Z : Zs) : Sp := fun vs H Q E =>
  spBin Z.c_Root plus vs H Q E
theorem ok_Root_add (T : Txt Z mg) (h_Root : HasC P w Z.K mg base "Root" Z.c_Root 3 ["self", "top", "root", "bottom"] (sp_Root_init Z)) (h_as_root : Has P w Z.K mg base "as_root" 5 ["number"] (sp_as_root Z)) (h_is_number : Has P w Z.K mg base "is_number" 2 ["thing"] (sp_is_number Z)) (D : AtM Z.K Z.c_Root "__add__" "Root.__add__" s_Root_add ["self", "other"]) : HasM P w Z.K mg base Z.c_Root "__add__" 6 ["self", "other"] (sp_Root_add Z) := by
  refine D.ok sc_Root_add (fun vs H Q E h => ?_) (fun cdv A outer s H vs Q E hr h => ?_)
  · obtain ⟨v, o, t, r, b, t', r', b', rfl, _⟩ := h
    rfl
  · refine ⟨_, (pss_cons (ps_if (pt_not (pt_val (pe_h (E := ED E) h_is_number hr (paW (takes_of rfl rfl rfl rfl)) (pa_cons (pv 1) pa_nil)))) (pss_one ps_never) pss_nil)
      (pss_cons (ps_set (i := 2) sc_Root_add.nd rfl (Or.inl rfl) (pe_h (E := ED E) h_as_root hr (paW (takes_of rfl rfl rfl rfl)) (pa_cons (pv 1) pa_nil)))
      (pss_cons (ps_set (i := 3) sc_Root_add.nd rfl (Or.inl rfl) (pe_op op_add (pe_op op_mulS (pe_fld (pv 0) rfl) (pe_fld (pv 2) rfl)) (pe_op op_mulS (pe_fld (pv 2) rfl) (pe_fld (pv 0) rfl))))
      (pss_cons (ps_set (i := 4) sc_Root_add.nd rfl (Or.inl rfl) (pe_op op_add (pe_op op_mulS (pe_fld (pv 0) rfl) (pe_fld (pv 2) rfl)) (pe_op op_mulS (pe_fld (pv 2) rfl) (pe_fld (pv 0) rfl))))
      (pss_one (ps_ret (pe_hc (E := ED E) h_Root hr (paW (takes_of rfl rfl rfl rfl)) (pa_cons (pv 3) (pa_cons (pv 4) (pa_cons (pe_op op_mulS (pe_fld (pv 0) rfl) (pe_fld (pv 2) rfl)) pa_nil)))))))))), ?_⟩
    try simp only [cxOf]
    obtain ⟨v, o, t, r, b, t', r', b', rfl, ⟨a, dx, rfl, ha⟩, ⟨bt, br, bb, lw⟩, ho, ⟨bt', br', bb', lw'⟩, q⟩ := h
    have p := lw.pos
    have p' := lw'.pos
    walk_at "W"
    refine ⟨o, rfl, ho.th, ?_⟩
    rw [ho.isN]
    walk_at "W"
    refine ⟨o, t', r', b', rfl, ho, ?_⟩
    rintro m H1 s1 ⟨a', dx', rfl, ha'⟩
    have ha1 := s1 _ _ ha
    repeat (first | walk_at "s" | walk_at "mul" | refine w_fld ha1 T.c_Root T.nf_top (rf_top _ _ _) ?_ | refine w_fld ha1 T.c_Root T.nf_root (rf_root _ _ _) ?_ | refine w_fld ha1 T.c_Root T.nf_bottom (rf_bottom _ _ _) ?_ | refine w_fld ha' T.c_Root T.nf_top (rf_top _ _ _) ?_ | refine w_fld ha' T.c_Root T.nf_root (rf_root _ _ _) ?_ | refine w_fld ha' T.c_Root T.nf_bottom (rf_bottom _ _ _) ?_)
    exact k_mkRootI (Int.mul_ne_zero (by omega) (by omega)) ((bb.mul bb').bd (by decide)) fun v' H' s' hv => q v' H' (s1.trans s') hv
abbrev s_Root_sub : Stmt := inClass (top 11) 4
theorem sc_Root_sub : FnScope ["self", "other", "less", "top", "root"] ["self", "other"] (defScope s_Root_sub) := ⟨rfl, rfl, rfl, by decide +kernel, rfl, by decide +kernel, by decide +kernel⟩

def sp_Root_sub (Z : Zs) : Sp := fun vs H Q E =>
  spBin Z.c_Root minus vs H Q E
theorem ok_Root_sub (T : Txt Z mg) (h_Root : HasC P w Z.K mg base "Root" Z.c_Root 3 ["self", "top", "root", "bottom"] (sp_Root_init Z)) (h_as_root : Has P w Z.K mg base "as_root" 5 ["number"] (sp_as_root Z)) (h_is_number : Has P w Z.K mg base "is_number" 2 ["thing"] (sp_is_number Z)) (D : AtM Z.K Z.c_Root "__sub__" "Root.__sub__" s_Root_sub ["self", "other"]) : HasM P w Z.K mg base Z.c_Root "__sub__" 6 ["self", "other"] (sp_Root_sub Z) := by
  refine D.ok sc_Root_sub (fun vs H Q E h => ?_) (fun cdv A outer s H vs Q E hr h => ?_)
  · obtain ⟨v, o, t, r, b, t', r', b', rfl, _⟩ := h
    rfl
  · refine ⟨_, (pss_cons (ps_if (pt_not (pt_val (pe_h (E := ED E) h_is_number hr (paW (takes_of rfl rfl rfl rfl)) (pa_cons (pv 1) pa_nil)))) (pss_one ps_never) pss_nil)
      (pss_cons (ps_set (i := 2) sc_Root_sub.nd rfl (Or.inl rfl) (pe_h (E := ED E) h_as_root hr (paW (takes_of rfl rfl rfl rfl)) (pa_cons (pv 1) pa_nil)))
      (pss_cons (ps_set (i := 3) sc_Root_sub.nd rfl (Or.inl rfl) (pe_op op_sub (pe_op op_mulS (pe_fld (pv 0) rfl) (pe_fld (pv 2) rfl)) (pe_op op_mulS (pe_fld (pv 2) rfl) (pe_fld (pv 0) rfl))))
      (pss_cons (ps_set (i := 4) sc_Root_sub.nd rfl (Or.inl rfl) (pe_op op_sub (pe_op op_mulS (pe_fld (pv 0) rfl) (pe_fld (pv 2) rfl)) (pe_op op_mulS (pe_fld (pv 2) rfl) (pe_fld (pv 0) rfl))))
      (pss_one (ps_ret (pe_hc (E := ED E) h_Root hr (paW (takes_of rfl rfl rfl rfl)) (pa_cons (pv 3) (pa_cons (pv 4) (pa_cons (pe_op op_mulS (pe_fld (pv 0) rfl) (pe_fld (pv 2) rfl)) pa_nil)))))))))), ?_⟩
    try simp only [cxOf]
    obtain ⟨v, o, t, r, b, t', r', b', rfl, ⟨a, dx, rfl, ha⟩, ⟨bt, br, bb, lw⟩, ho, ⟨bt', br', bb', lw'⟩, q⟩ := h
    have p := lw.pos
    have p' := lw'.pos
    walk_at "W"
    refine ⟨o, rfl, ho.th, ?_⟩
    rw [ho.isN]
    walk_at "W"
    refine ⟨o, t', r', b', rfl, ho, ?_⟩
    rintro m H1 s1 ⟨a', dx', rfl, ha'⟩
    have ha1 := s1 _ _ ha
    repeat (first | walk_at "s" | walk_at "mul" | refine w_fld ha1 T.c_Root T.nf_top (rf_top _ _ _) ?_ | refine w_fld ha1 T.c_Root T.nf_root (rf_root _ _ _) ?_ | refine w_fld ha1 T.c_Root T.nf_bottom (rf_bottom _ _ _) ?_ | refine w_fld ha' T.c_Root T.nf_top (rf_top _ _ _) ?_ | refine w_fld ha' T.c_Root T.nf_root (rf_root _ _ _) ?_ | refine w_fld ha' T.c_Root T.nf_bottom (rf_bottom _ _ _) ?_)
    exact k_mkRootI (Int.mul_ne_zero (by omega) (by omega)) ((bb.mul bb').bd (by decide)) fun v' H' s' hv => q v' H' (s1.trans s') hv
abbrev s_Root_mul : Stmt := inClass (top 11) 6
theorem sc_Root_mul : FnScope ["self", "other", "by", "top", "root"] ["self", "other"] (defScope s_Root_mul) := ⟨rfl, rfl, rfl, by decide +kernel, rfl, by decide +kernel, by decide +kernel⟩

def sp_Root_mul (Z : Zs) : Sp := fun vs H Q E =>
  spBin Z.c_Root times vs H Q E
theorem ok_Root_mul (T : Txt Z mg) (h_Root : HasC P w Z.K mg base "Root" Z.c_Root 3 ["self", "top", "root", "bottom"] (sp_Root_init Z)) (h_as_root : Has P w Z.K mg base "as_root" 5 ["number"] (sp_as_root Z)) (h_is_number : Has P w Z.K mg base "is_number" 2 ["thing"] (sp_is_number Z)) (D : AtM Z.K Z.c_Root "__mul__" "Root.__mul__" s_Root_mul ["self", "other"]) : HasM P w Z.K mg base Z.c_Root "__mul__" 6 ["self", "other"] (sp_Root_mul Z) := by
  refine D.ok sc_Root_mul (fun vs H Q E h => ?_) (fun cdv A outer s H vs Q E hr h => ?_)
  · obtain ⟨v, o, t, r, b, t', r', b', rfl, _⟩ := h
    rfl
  · refine ⟨_, (pss_cons (ps_if (pt_not (pt_val (pe_h (E := ED E) h_is_number hr (paW (takes_of rfl rfl rfl rfl)) (pa_cons (pv 1) pa_nil)))) (pss_one ps_never) pss_nil)
      (pss_cons (ps_set (i := 2) sc_Root_mul.nd rfl (Or.inl rfl) (pe_h (E := ED E) h_as_root hr (paW (takes_of rfl rfl rfl rfl)) (pa_cons (pv 1) pa_nil)))
      (pss_cons (ps_set (i := 3) sc_Root_mul.nd rfl (Or.inl rfl) (pe_op op_add (pe_op op_mulS (pe_fld (pv 0) rfl) (pe_fld (pv 2) rfl)) (pe_op op_mulS (pe_op op_mulS pe_int (pe_fld (pv 0) rfl)) (pe_fld (pv 2) rfl))))
      (pss_cons (ps_set (i := 4) sc_Root_mul.nd rfl (Or.inl rfl) (pe_op op_add (pe_op op_mulS (pe_fld (pv 0) rfl) (pe_fld (pv 2) rfl)) (pe_op op_mulS (pe_fld (pv 0) rfl) (pe_fld (pv 2) rfl))))
      (pss_one (ps_ret (pe_hc (E := ED E) h_Root hr (paW (takes_of rfl rfl rfl rfl)) (pa_cons (pv 3) (pa_cons (pv 4) (pa_cons (pe_op op_mulS (pe_fld (pv 0) rfl) (pe_fld (pv 2) rfl)) pa_nil)))))))))), ?_⟩
    try simp only [cxOf]
    obtain ⟨v, o, t, r, b, t', r', b', rfl, ⟨a, dx, rfl, ha⟩, ⟨bt, br, bb, lw⟩, ho, ⟨bt', br', bb', lw'⟩, q⟩ := h
    have p := lw.pos
    have p' := lw'.pos
    walk_at "W"
    refine ⟨o, rfl, ho.th, ?_⟩
    rw [ho.isN]
    walk_at "W"
    refine ⟨o, t', r', b', rfl, ho, ?_⟩
    rintro m H1 s1 ⟨a', dx', rfl, ha'⟩
    have ha1 := s1 _ _ ha
    repeat (first | walk_at "s" | walk_at "mul" | refine w_fld ha1 T.c_Root T.nf_top (rf_top _ _ _) ?_ | refine w_fld ha1 T.c_Root T.nf_root (rf_root _ _ _) ?_ | refine w_fld ha1 T.c_Root T.nf_bottom (rf_bottom _ _ _) ?_ | refine w_fld ha' T.c_Root T.nf_top (rf_top _ _ _) ?_ | refine w_fld ha' T.c_Root T.nf_root (rf_root _ _ _) ?_ | refine w_fld ha' T.c_Root T.nf_bottom (rf_bottom _ _ _) ?_)
    exact k_mkRootI (Int.mul_ne_zero (by omega) (by omega)) ((bb.mul bb').bd (by decide)) fun v' H' s' hv => q v' H' (s1.trans s') hv
theorem k_ownL {x y : V} {t r b t' r' b' : Int} {H : Hp} {Q : VK} {sp : Sp} {E : XK} {c : Addr} (hx : RootAt c H x t r b) (hy : NumAt c H y t' r' b') (h : sp [x, y] H Q E) : rOwnL c sp E x y H Q := by
  obtain ⟨a, dx, rfl, ha⟩ := hx
  refine ⟨a, dx, _, rfl, ha, ?_, h⟩
  rcases hy with ⟨a', dx', rfl, ha'⟩ | ⟨i, rfl, _⟩
  · exact .inr ⟨a', dx', _, rfl, ha'⟩
  · exact .inl ⟨i, rfl⟩
abbrev s_Root_radd : Stmt := inClass (top 11) 3
theorem sc_Root_radd : FnScope ["self", "other"] ["self", "other"] (defScope s_Root_radd) := ⟨rfl, rfl, rfl, by decide +kernel, rfl, by decide +kernel, by decide +kernel⟩

def sp_Root_radd (Z : Zs) : Sp := fun vs H Q E =>
  spBin Z.c_Root (back plus) vs H Q E
theorem ok_Root_radd (T : Txt Z mg) (h_Root_add : HasM P w Z.K mg base Z.c_Root "__add__" 6 ["self", "other"] (sp_Root_add Z)) (D : AtM Z.K Z.c_Root "__radd__" "Root.__radd__" s_Root_radd ["self", "other"]) : HasM P w Z.K mg base Z.c_Root "__radd__" 7 ["self", "other"] (sp_Root_radd Z) := by
  refine D.ok sc_Root_radd (fun vs H Q E h => ?_) (fun cdv A outer s H vs Q E hr h => ?_)
  · obtain ⟨v, o, t, r, b, t', r', b', rfl, _⟩ := h
    rfl
  · refine ⟨_, (pss_one (ps_ret (pe_op (op_addL T.ow T.ra h_Root_add hr passL) (pv 0) (pv 1)))), ?_⟩
    try simp only [cxOf]
    obtain ⟨v, o, t, r, b, t', r', b', rfl, hv, sm, ho, sm', q⟩ := h
    walk_at "W"
    refine k_ownL hv ho ⟨_, _, t, r, b, t', r', b', rfl, hv, sm, ho, sm', fun v' H' s' hv' => q v' H' s' ?_⟩
    exact hv'.congr (s := 1) (Int.mul_ne_zero sm'.hn sm.hn) (by decide) (by show t * b' + t' * b = (t' * b + t * b') * 1; grind) (by show r * b' + r' * b = (r' * b + r * b') * 1; grind) (by show b * b' = (b' * b) * 1; grind)
abbrev s_Root_rmul : Stmt := inClass (top 11) 7
theorem sc_Root_rmul : FnScope ["self", "other"] ["self", "other"] (defScope s_Root_rmul) := ⟨rfl, rfl, rfl, by decide +kernel, rfl, by decide +kernel, by decide +kernel⟩

def sp_Root_rmul (Z : Zs) : Sp := fun vs H Q E =>
  spBin Z.c_Root (back times) vs H Q E
theorem ok_Root_rmul (T : Txt Z mg) (h_Root_mul : HasM P w Z.K mg base Z.c_Root "__mul__" 6 ["self", "other"] (sp_Root_mul Z)) (D : AtM Z.K Z.c_Root "__rmul__" "Root.__rmul__" s_Root_rmul ["self", "other"]) : HasM P w Z.K mg base Z.c_Root "__rmul__" 7 ["self", "other"] (sp_Root_rmul Z) := by
  refine D.ok sc_Root_rmul (fun vs H Q E h => ?_) (fun cdv A outer s H vs Q E hr h => ?_)
  · obtain ⟨v, o, t, r, b, t', r', b', rfl, _⟩ := h
    rfl
  · refine ⟨_, (pss_one (ps_ret (pe_op (op_mulL T.ow T.rm h_Root_mul hr passL) (pv 0) (pv 1)))), ?_⟩
    try simp only [cxOf]
    obtain ⟨v, o, t, r, b, t', r', b', rfl, hv, sm, ho, sm', q⟩ := h
    walk_at "W"
    refine k_ownL hv ho ⟨_, _, t, r, b, t', r', b', rfl, hv, sm, ho, sm', fun v' H' s' hv' => q v' H' s' ?_⟩
    exact hv'.congr (s := 1) (Int.mul_ne_zero sm'.hn sm.hn) (by decide) (by show t * t' + 2 * r * r' = (t' * t + 2 * r' * r) * 1; grind) (by show t * r' + r * t' = (t' * r + r' * t) * 1; grind) (by show b * b' = (b' * b) * 1; grind)
abbrev s_Root_rsub : Stmt := inClass (top 11) 5
theorem sc_Root_rsub : FnScope ["self", "other"] ["self", "other"] (defScope s_Root_rsub) := ⟨rfl, rfl, rfl, by decide +kernel, rfl, by decide +kernel, by decide +kernel⟩

def sp_Root_rsub (Z : Zs) : Sp := fun vs H Q E =>
  spBin Z.c_Root (back minus) vs H Q E
theorem ok_Root_rsub (T : Txt Z mg) (h_Root_add : HasM P w Z.K mg base Z.c_Root "__add__" 6 ["self", "other"] (sp_Root_add Z)) (h_Root_neg : HasM P w Z.K mg base Z.c_Root "__neg__" 5 ["self"] (sp_Root_neg Z)) (D : AtM Z.K Z.c_Root "__rsub__" "Root.__rsub__" s_Root_rsub ["self", "other"]) : HasM P w Z.K mg base Z.c_Root "__rsub__" 7 ["self", "other"] (sp_Root_rsub Z) := by
  refine D.ok sc_Root_rsub (fun vs H Q E h => ?_) (fun cdv A outer s H vs Q E hr h => ?_)
  · obtain ⟨v, o, t, r, b, t', r', b', rfl, _⟩ := h
    rfl
  · refine ⟨_, (pss_one (ps_ret (pe_op (op_addL T.ow T.ra h_Root_add hr passL) (pe_un (un_own h_Root_neg hr passL) (pv 0)) (pv 1)))), ?_⟩
    try simp only [cxOf]
    obtain ⟨v, o, t, r, b, t', r', b', rfl, hv, sm, ho, sm', q⟩ := h
    walk_at "W"
    obtain ⟨a, dx, rfl, ha⟩ := hv
    refine ⟨a, dx, _, rfl, ha, _, t, r, b, rfl, ⟨a, dx, rfl, ha⟩, sm.hn, sm.hb.bd (by decide), fun u H1 s1 hu => ?_⟩
    walk_at "W"
    have ho1 := ho.same s1
    obtain ⟨bt, br, bb, lw⟩ := sm
    have sn := Sm.low (by have := lw.pos; omega) bt.neg br.neg bb
    refine k_ownL hu ho1 ⟨_, _, _, _, _, t', r', b', rfl, hu, sn, ho1, sm', fun v' H' s' hv' => q v' H' (s1.trans s') ?_⟩
    obtain ⟨s, hs, e1, e2, e3⟩ := (low_is (t := -t) (r := -r) (by have := lw.pos; omega : b ≠ 0)).s
    refine LowAt.congr' hv' (Int.mul_ne_zero sn.hn sm'.hn) hs ?_ ?_ ?_
    · show t' * b - t * b' = (lowT (-t) (-r) b * b' + t' * lowB (-t) (-r) b) * s
      grind
    · show r' * b - r * b' = (lowR (-t) (-r) b * b' + r' * lowB (-t) (-r) b) * s
      grind
    · show b' * b = (lowB (-t) (-r) b * b') * s
      grind
theorem nat_sq2 : ∀ m n : Nat, m * m = 2 * (n * n) → n = 0 := by
  intro m
  induction m using Nat.strongRecOn with
  | ind m ih =>
    intro n h
    rcases Nat.eq_zero_or_pos n with h0 | h0
    · exact h0
    have hn : n < m := by
      rcases Nat.lt_or_ge n m with q | q
      · exact q
      · have := Nat.mul_le_mul q q
        have : 0 < n * n := Nat.mul_pos h0 h0
        omega
    have he : m % 2 = 0 := by
      rcases Nat.mod_two_eq_zero_or_one m with q | q
      · exact q
      · have : m * m % 2 = 1 := by rw [Nat.mul_mod, q]
        omega
    obtain ⟨k, rfl⟩ : ∃ k, m = 2 * k := ⟨m / 2, by omega⟩
    have h2 : n * n = 2 * (k * k) := by
      have : 2 * k * (2 * k) = 4 * (k * k) := by grind
      omega
    have hk := ih n hn k h2
    subst hk
    simp at h2
    rcases Nat.mul_eq_zero.mp h2 with q | q <;> exact q
/-- the square root of 2 is no fraction -/
theorem sq2 {t r : Int} (h : t * t - 2 * r * r = 0) : t = 0 ∧ r = 0 := by
  have e : t.natAbs * t.natAbs = 2 * (r.natAbs * r.natAbs) := by
    have h1 : ((t.natAbs * t.natAbs : Nat) : Int) = t * t := Int.natAbs_mul_self
    have h2 : ((r.natAbs * r.natAbs : Nat) : Int) = r * r := Int.natAbs_mul_self
    have h3 : 2 * r * r = 2 * (r * r) := Int.mul_assoc ..
    omega
  have hr := nat_sq2 _ _ e
  rw [hr] at e
  simp at e
  have h0 : t.natAbs = 0 := by rcases Nat.mul_eq_zero.mp e with q | q <;> exact q
  exact ⟨by omega, by omega⟩
theorem sm_zero {t r b : Int} (h : Sm t r b) : (r = 0 ∧ b = 1 ∧ t = 0) ↔ (t = 0 ∧ r = 0) := by
  constructor
  · rintro ⟨a, _, c⟩; exact ⟨c, a⟩
  · rintro ⟨rfl, rfl⟩
    have o := h.lw.one
    have p := h.lw.pos
    simp at o
    exact ⟨rfl, by omega, rfl⟩
def quot : F3 := ⟨fun t r _ t' r' b' => (t * t' - 2 * r * r') * b', fun t r _ t' r' b' => (r * t' - t * r') * b', fun _ _ b t' r' _ => b * (t' * t' - 2 * r' * r')⟩
/-- an own error with what was bad -/
def Er (Z : Zs) (o : V) (H : Hp) (E : XK) : Prop := ∀ d H', H d = none → Same H H' → H' d = some (.xd [("value", o)]) → E (.ref Z.c_BadNumber) (some d) H'
abbrev s_Root_less : Stmt := inClass (top 11) 10
theorem sc_Root_less : FnScope ["self", "number", "more", "top", "root"] ["self", "number"] (defScope s_Root_less) := ⟨rfl, rfl, rfl, by decide +kernel, rfl, by decide +kernel, by decide +kernel⟩

def sp_Root_less (Z : Zs) : Sp := fun vs H Q E =>
  ∃ v o t r b, vs = [v, o] ∧ RootAt Z.c_Root H v t r b ∧ Sm t r b ∧ Th Z.c_Root H o ∧
    (isN Z.c_Root H o = false ∧ Er Z o H E ∨ ∃ t' r' b', NumAt Z.c_Root H o t' r' b' ∧ Sm t' r' b' ∧
      ∀ H', Same H H' → Q (.bl (decide (sgn (minus.t t r b t' r' b') (minus.r t r b t' r' b') < 0))) H')
theorem ok_Root_less (T : Txt Z mg) (h_surd_sign : Has P w Z.K mg base "surd_sign" 1 ["top", "root"] (sp_surd_sign Z)) (h_as_root : Has P w Z.K mg base "as_root" 5 ["number"] (sp_as_root Z)) (h_is_number : Has P w Z.K mg base "is_number" 2 ["thing"] (sp_is_number Z)) (h_BadNumber : HasX P w Z.K mg base "BadNumber" Z.c_BadNumber 1 ["self", "value"] (sp_BadNumber_init Z)) (D : AtM Z.K Z.c_Root "less" "Root.less" s_Root_less ["self", "number"]) : HasM P w Z.K mg base Z.c_Root "less" 6 ["self", "number"] (sp_Root_less Z) := by
  refine D.ok sc_Root_less (fun vs H Q E h => ?_) (fun cdv A outer s H vs Q E hr h => ?_)
  · obtain ⟨v, o, t, r, b, rfl, _⟩ := h
    rfl
  · refine ⟨_, (pss_cons (ps_if (pt_not (pt_val (pe_h (E := ED E) h_is_number hr (paW (takes_of rfl rfl rfl rfl)) (pa_cons (pv 1) pa_nil)))) (pss_one (ps_raise rfl (takes_of rfl rfl rfl rfl) (pm_h T.x_BadNumber h_BadNumber hr (pa_cons (pv 1) pa_nil)))) pss_nil)
      (pss_cons (ps_set (i := 2) sc_Root_less.nd rfl (Or.inl rfl) (pe_h (E := ED E) h_as_root hr (paW (takes_of rfl rfl rfl rfl)) (pa_cons (pv 1) pa_nil)))
      (pss_cons (ps_set (i := 3) sc_Root_less.nd rfl (Or.inl rfl) (pe_op op_sub (pe_op op_mulS (pe_fld (pv 0) rfl) (pe_fld (pv 2) rfl)) (pe_op op_mulS (pe_fld (pv 2) rfl) (pe_fld (pv 0) rfl))))
      (pss_cons (ps_set (i := 4) sc_Root_less.nd rfl (Or.inl rfl) (pe_op op_sub (pe_op op_mulS (pe_fld (pv 0) rfl) (pe_fld (pv 2) rfl)) (pe_op op_mulS (pe_fld (pv 2) rfl) (pe_fld (pv 0) rfl))))
      (pss_one (ps_ret (pe_cmpR op_lt (pe_h (E := ED E) h_surd_sign hr (paW (takes_of rfl rfl rfl rfl)) (pa_cons (pv 3) (pa_cons (pv 4) pa_nil))) pe_int (nomark _)))))))), ?_⟩
    try simp only [cxOf]
    obtain ⟨v, o, t, r, b, rfl, ⟨a, dx, rfl, ha⟩, ⟨bt, br, bb, lw⟩, ho, hh⟩ := h
    walk_at "W"
    refine ⟨o, rfl, ho, ?_⟩
    rcases hh with ⟨e, er⟩ | ⟨t', r', b', hn, ⟨bt', br', bb', lw'⟩, q⟩
    · rw [e]
      walk_at "W"
      exact k_mkO fun d H2 hd s4 e4 => er d H2 hd s4 e4
    rw [hn.isN]
    walk_at "W"
    refine ⟨o, t', r', b', rfl, hn, ?_⟩
    rintro m H1 s1 ⟨a', dx', rfl, ha'⟩
    have ha1 := s1 _ _ ha
    repeat (first | walk_at "s" | walk_at "mul" | refine w_fld ha1 T.c_Root T.nf_top (rf_top _ _ _) ?_ | refine w_fld ha1 T.c_Root T.nf_root (rf_root _ _ _) ?_ | refine w_fld ha1 T.c_Root T.nf_bottom (rf_bottom _ _ _) ?_ | refine w_fld ha' T.c_Root T.nf_top (rf_top _ _ _) ?_ | refine w_fld ha' T.c_Root T.nf_root (rf_root _ _ _) ?_ | refine w_fld ha' T.c_Root T.nf_bottom (rf_bottom _ _ _) ?_)
    refine ⟨_, _, rfl, ((bt.mul bb').sub (bt'.mul bb)).mono (by decide), ((br.mul bb').sub (br'.mul bb)).mono (by decide), ?_⟩
    walk_at "W"
    exact q H1 s1
abbrev s_Root_sign : Stmt := inClass (top 11) 11
theorem sc_Root_sign : FnScope ["self"] ["self"] (defScope s_Root_sign) := ⟨rfl, rfl, rfl, by decide +kernel, rfl, by decide +kernel, by decide +kernel⟩

def sp_Root_sign (Z : Zs) : Sp := fun vs H Q E =>
  ∃ v t r b, vs = [v] ∧ RootAt Z.c_Root H v t r b ∧ Sm t r b ∧ Q (.int (sgn t r)) H
theorem ok_Root_sign (T : Txt Z mg) (h_surd_sign : Has P w Z.K mg base "surd_sign" 1 ["top", "root"] (sp_surd_sign Z)) (D : AtM Z.K Z.c_Root "sign" "Root.sign" s_Root_sign ["self"]) : HasM P w Z.K mg base Z.c_Root "sign" 2 ["self"] (sp_Root_sign Z) := by
  refine D.ok sc_Root_sign (fun vs H Q E h => ?_) (fun cdv A outer s H vs Q E hr h => ?_)
  · obtain ⟨v, t, r, b, rfl, _⟩ := h
    rfl
  · refine ⟨_, (pss_one (ps_ret (pe_h (E := ED E) h_surd_sign hr (paW (takes_of rfl rfl rfl rfl)) (pa_cons (pe_fld (pv 0) rfl) (pa_cons (pe_fld (pv 0) rfl) pa_nil))))), ?_⟩
    try simp only [cxOf]
    obtain ⟨v, t, r, b, rfl, ⟨a, dx, rfl, ha⟩, ⟨bt, br, bb, lw⟩, q⟩ := h
    repeat (first | walk_at "s" | refine w_fld ha T.c_Root T.nf_top (rf_top _ _ _) ?_ | refine w_fld ha T.c_Root T.nf_root (rf_root _ _ _) ?_ | refine w_fld ha T.c_Root T.nf_bottom (rf_bottom _ _ _) ?_)
    exact ⟨_, _, rfl, bt.mono (by decide), br.mono (by decide), q⟩
theorem LowAt.same {c : Addr} {H H' : Hp} {v : V} {t r b : Int} (h : LowAt c H v t r b) (s : Same H H') : LowAt c H' v t r b := RootAt.same h s
/-! ### what two numbers make, told of the same numbers times something -/
def Hom (F : F3) : Prop := ∀ t r b t' r' b' s s' : Int, s ≠ 0 → s' ≠ 0 → ∃ k : Int, k ≠ 0 ∧ F.t (t * s) (r * s) (b * s) (t' * s') (r' * s') (b' * s') = F.t t r b t' r' b' * k ∧
  F.r (t * s) (r * s) (b * s) (t' * s') (r' * s') (b' * s') = F.r t r b t' r' b' * k ∧ F.b (t * s) (r * s) (b * s) (t' * s') (r' * s') (b' * s') = F.b t r b t' r' b' * k
theorem hom_plus : Hom plus := fun t r b t' r' b' s s' h h' => ⟨s * s', Int.mul_ne_zero h h', by unfold plus; dsimp only; grind, by unfold plus; dsimp only; grind, by unfold plus; dsimp only; grind⟩
theorem hom_minus : Hom minus := fun t r b t' r' b' s s' h h' => ⟨s * s', Int.mul_ne_zero h h', by unfold minus; dsimp only; grind, by unfold minus; dsimp only; grind, by unfold minus; dsimp only; grind⟩
theorem hom_times : Hom times := fun t r b t' r' b' s s' h h' => ⟨s * s', Int.mul_ne_zero h h', by unfold times; dsimp only; grind, by unfold times; dsimp only; grind, by unfold times; dsimp only; grind⟩
theorem hom_quot : Hom quot := fun t r b t' r' b' s s' h h' => ⟨s * (s' * s'), Int.mul_ne_zero h (Int.mul_ne_zero h' h'), by unfold quot; dsimp only; grind, by unfold quot; dsimp only; grind, by unfold quot; dsimp only; grind⟩
/-- what the lowest terms make is what the numbers make -/
theorem low_hom {F : F3} (hF : Hom F) {c : Addr} {H : Hp} {v : V} {t r b t' r' b' : Int} (hb : b ≠ 0) (hb' : b' ≠ 0) (n : F.b (lowT t r b) (lowR t r b) (lowB t r b) (lowT t' r' b') (lowR t' r' b') (lowB t' r' b') ≠ 0)
    (h : LowAt c H v (F.t (lowT t r b) (lowR t r b) (lowB t r b) (lowT t' r' b') (lowR t' r' b') (lowB t' r' b')) (F.r (lowT t r b) (lowR t r b) (lowB t r b) (lowT t' r' b') (lowR t' r' b') (lowB t' r' b')) (F.b (lowT t r b) (lowR t r b) (lowB t r b) (lowT t' r' b') (lowR t' r' b') (lowB t' r' b'))) :
    LowAt c H v (F.t t r b t' r' b') (F.r t r b t' r' b') (F.b t r b t' r' b') := by
  obtain ⟨s, hs, e1, e2, e3⟩ := (low_is (t := t) (r := r) hb).s
  obtain ⟨s', hs', e1', e2', e3'⟩ := (low_is (t := t') (r := r') hb').s
  obtain ⟨k, hk, k1, k2, k3⟩ := hF (lowT t r b) (lowR t r b) (lowB t r b) (lowT t' r' b') (lowR t' r' b') (lowB t' r' b') s s' hs hs'
  rw [← e1, ← e2, ← e3, ← e1', ← e2', ← e3'] at k1 k2 k3
  exact h.congr' n hk k1 k2 k3
theorem k_ownB {x y : V} {t r b t' r' b' : Int} {H : Hp} {Q : VK} {sp spr : Sp} {E : XK} {c : Addr} {F : F3} (e1 : sp = spBin c F) (e2 : spr = spBin c (back F)) (hx : NumAt c H x t r b) (hy : NumAt c H y t' r' b') (one : RootAt c H x t r b ∨ RootAt c H y t' r' b') (sm : Sm t r b) (sm' : Sm t' r' b')
    (q : ∀ v' H', Same H H' → LowAt c H' v' (F.t t r b t' r' b') (F.r t r b t' r' b') (F.b t r b t' r' b') → Q v' H') : rOwnB c sp spr E x y H Q := by
  subst e1 e2
  have two : ∀ {v : V} {t r b : Int}, NumAt c H v t r b → (∃ i, v = .int i) ∨ ∃ a' dx' fs', v = .ref a' ∧ H a' = some (.ins c dx' fs') := fun h => by
    rcases h with ⟨a', dx', rfl, ha'⟩ | ⟨i, rfl, _⟩
    · exact .inr ⟨a', dx', _, rfl, ha'⟩
    · exact .inl ⟨i, rfl⟩
  rcases hx with hx | ⟨i, rfl, hi⟩
  · have hx' := hx
    obtain ⟨a, dx, rfl, ha⟩ := hx
    exact .inl ⟨a, dx, _, rfl, ha, two hy, _, _, t, r, b, t', r', b', rfl, hx', sm, hy, sm', q⟩
  · rcases one with ⟨a, dx, z, _⟩ | hy'
    · cases z
    · have hy2 := hy'
      obtain ⟨a, dx, rfl, ha⟩ := hy2
      exact .inr ⟨i, a, dx, _, rfl, rfl, ha, _, _, t', r', b', t, r, b, rfl, hy', sm', .inr ⟨i, rfl, hi⟩, sm, q⟩
theorem eqRt_num {H : Hp} {t r b t' r' b' : Int} {v : V} {c : Addr} (h : NumAt c H v t' r' b') : eqRt H t r b v = decide (t' = t ∧ r' = r ∧ b' = b) ∨ ∃ i, v = .int i ∧ t' = i ∧ r' = 0 ∧ b' = 1 ∧ eqRt H t r b v = (decide (r = 0) && (decide (b = 1) && decide (t = i))) := by
  rcases h with h | ⟨i, rfl, h1, h2, h3⟩
  · exact .inl (eqRt_root h)
  · exact .inr ⟨i, rfl, h1, h2, h3, rfl⟩
theorem eqRt_self {H : Hp} {t r b : Int} {v : V} {c : Addr} (h : NumAt c H v t r b) : eqRt H t r b v = true := by
  rcases eqRt_num (t := t) (r := r) (b := b) h with e | ⟨i, rfl, rfl, rfl, rfl, e⟩
  · rw [e]; simp
  · rw [e]; simp
theorem NumAt.sx {c st sc : Addr} {H H' : Hp} {v : V} {t r b : Int} (h : NumAt c H v t r b) (hs : StA H st sc) (s : SameX st H H') : NumAt c H' v t r b := h.imp (·.sx hs s) id
/-- != of plain things -/
def rNeU (K : PySem.W.Frag) : R2 := fun x y H Q => rNeD K x y H Q ∨ rNeDA x y H Q
theorem op_neU {X : Cx} (hu : X.A.units + 64 < cLine) : OpR X (compareOp .NotEq) (rNeU X.K) := (op_neD hu).or (op_ne_dictA (by omega))
theorem w_neSelf {K : PySem.W.Frag} {H : Hp} {Q : VK} {v : V} (h : (∃ b, v = .bl b) ∨ Selfy H v) (q : Q (.bl false) H) : rNeU K v v H Q := by
  have go : ∀ d, Dp K H v d → SeqAt.shaped d = true → rNeU K v v H Q := fun d hd sd => .inl ⟨d, d, hd, hd, sd, sd, by rw [SeqAt.eqv_refl d (SeqAt.canLay_of_shaped sd)]; exact q⟩
  rcases h with ⟨b, rfl⟩ | h
  · exact go _ (.bl b) (by cases b <;> decide +kernel)
  cases h with
  | non => exact go _ .non (by decide +kernel)
  | int i => exact go _ (.int i) rfl
  | str s h => exact go _ (.str s) h
  | lst a ns e => exact go _ (.lst (SqL.of e) (dp_ints ns)) (shaped_intsL ns)
  | tup a ns e => exact go _ (.tup (SqT.of e) (dp_ints ns)) (shaped_ints ns)
  | dK a e => exact .inr ⟨a, a, [], [], rfl, rfl, e, e, rfl, (fun _ h => nomatch h), q⟩
theorem T3.sx {H H' : Hp} {st sc u : Addr} {t r b : Int} (h : T3 H u t r b) (hs : StA H st sc) (s : SameX st H H') : T3 H' u t r b := s _ _ (hs.ne h (by intro xs z; cases z)) h
theorem NumAt.isB {c : Addr} {H : Hp} {v : V} {t r b : Int} (h : NumAt c H v t r b) : isB v = false := by
  rcases h with ⟨a, dx, rfl, e⟩ | ⟨i, rfl, _⟩ <;> rfl
theorem k_eq0 {mg : Str → Option Value} (T : Txt Z mg) {H : Hp} {Q : VK} {E : XK} {o : V} {t' r' b' : Int} (hn : NumAt Z.c_Root H o t' r' b') (sm : Sm t' r' b') (z : t' = 0 ∧ r' = 0) (q : Q (.bl true) H) : rOwnC Z.K Z.c_Root (sp_Root_eq Z) E o (.int 0) H Q ∨ rEq o (.int 0) H Q := by
  rcases hn with hn | ⟨i, rfl, h1, h2, h3⟩
  · refine .inl (k_eqC T hn (.int 0) ?_)
    have : eqRt H t' r' b' (.int 0) = true := by
      show (decide (r' = 0) && (decide (b' = 1) && decide (t' = 0))) = true
      rw [← Bool.decide_and, ← Bool.decide_and]
      exact decide_eq_true ((sm_zero sm).mpr z)
    rw [this]
    exact q
  · refine .inr (w_eq rfl ?_)
    have : i = 0 := by omega
    subst this
    exact q
theorem k_eqS {mg : Str → Option Value} (T : Txt Z mg) {H : Hp} {Q : VK} {E : XK} {x y : V} {t r b : Int} (hx : NumAt Z.c_Root H x t r b) (hy : RootAt Z.c_Root H y t r b) (q : Q (.bl true) H) : rOwnC Z.K Z.c_Root (sp_Root_eq Z) E x y H Q ∨ rOwnR Z.K Z.c_Root (sp_Root_eq Z) E x y H Q := by
  have hn : NumAt Z.c_Root H y t r b := .inl hy
  rcases hx with hx | ⟨i, rfl, h1, h2, h3⟩
  · exact .inl (k_eqC T hx hy.th (by rw [eqRt_self hn]; exact q))
  · refine .inr (k_eqR T hy (.inl ⟨i, rfl⟩) ?_)
    rw [eqRt_self (.inr ⟨i, rfl, h1, h2, h3⟩ : NumAt Z.c_Root H (.int i) t r b)]
    exact q
theorem Selfy.same {H H' : Hp} {v : V} (h : Selfy H v) (s : Same H H') : Selfy H' v := by
  cases h with
  | non => exact .non
  | int i => exact .int i
  | str x h => exact .str x h
  | lst a ns e => exact .lst a ns (s _ _ e)
  | tup a ns e => exact .tup a ns (s _ _ e)
  | dK a e => exact .dK a (s _ _ e)
theorem low_zero {t r b : Int} (hb : b ≠ 0) : (lowT t r b = 0 ∧ lowR t r b = 0) ↔ (t = 0 ∧ r = 0) := by
  obtain ⟨s, hs, e1, e2, _⟩ := (low_is (t := t) (r := r) hb).s
  constructor
  · rintro ⟨h1, h2⟩
    rw [h1] at e1; rw [h2] at e2
    exact ⟨by omega, by omega⟩
  · rintro ⟨h1, h2⟩
    exact ⟨(Int.mul_eq_zero.mp (e1.symm.trans h1)).resolve_right hs, (Int.mul_eq_zero.mp (e2.symm.trans h2)).resolve_right hs⟩
theorem LowAt.eq {c : Addr} {H : Hp} {v : V} {t r b t' r' b' : Int} (h : LowAt c H v t r b) (e1 : t = t') (e2 : r = r') (e3 : b = b') : LowAt c H v t' r' b' := by rw [← e1, ← e2, ← e3]; exact h
theorem sgn_scale {t r k : Int} (hk : 0 < k) : sgn (t * k) (r * k) = sgn t r := by
  have z : ∀ x : Int, (x * k = 0) = (x = 0) := fun x => propext ⟨fun h => (Int.mul_eq_zero.mp h).resolve_right (by omega), fun h => by rw [h, Int.zero_mul]⟩
  have p : ∀ x : Int, (0 ≤ x * k) = (0 ≤ x) := fun x => propext ⟨fun h => by
    rcases Int.lt_or_le x 0 with q | q
    · have := Int.mul_neg_of_neg_of_pos q hk; omega
    · exact q, fun h => Int.mul_nonneg h (by omega)⟩
  have n : ∀ x : Int, (x * k ≤ 0) = (x ≤ 0) := fun x => propext ⟨fun h => by
    rcases Int.lt_or_le 0 x with q | q
    · have := Int.mul_pos q hk; omega
    · exact q, fun h => Int.mul_nonpos_of_nonpos_of_nonneg h (by omega)⟩
  have g : ∀ x : Int, (0 < x * k) = (0 < x) := fun x => propext ⟨fun h => by
    rcases Int.lt_or_le 0 x with q | q
    · exact q
    · have := Int.mul_nonpos_of_nonpos_of_nonneg q (show 0 ≤ k by omega); omega, fun h => Int.mul_pos h hk⟩
  have kk : 0 < k * k := Int.mul_pos hk hk
  have m : (t * k * (t * k) > 2 * (r * k) * (r * k)) = (t * t > 2 * r * r) := by
    have e1 : t * k * (t * k) = (t * t) * (k * k) := by grind
    have e2 : 2 * (r * k) * (r * k) = (2 * r * r) * (k * k) := by grind
    rw [e1, e2]
    exact propext ⟨fun h => Int.lt_of_mul_lt_mul_right h (by omega), fun h => Int.mul_lt_mul_of_pos_right h kk⟩
  unfold sgn
  simp only [z, p, n, g, m]
theorem low_pos {t r b : Int} (hb : 0 < b) : ∃ s : Int, 0 < s ∧ t = lowT t r b * s ∧ r = lowR t r b * s ∧ b = lowB t r b * s := by
  have l := low_is (t := t) (r := r) (show b ≠ 0 by omega)
  obtain ⟨s, hs, e1, e2, e3⟩ := l.s
  refine ⟨s, ?_, e1, e2, e3⟩
  rcases Int.lt_trichotomy s 0 with q | q | q
  · have := Int.mul_neg_of_pos_of_neg l.pos q; omega
  · exact absurd q hs
  · exact q
theorem minus_sgn {t1 r1 b1 t2 r2 b2 : Int} (h1 : 0 < b1) (h2 : 0 < b2) : sgn (minus.t (lowT t1 r1 b1) (lowR t1 r1 b1) (lowB t1 r1 b1) (lowT t2 r2 b2) (lowR t2 r2 b2) (lowB t2 r2 b2)) (minus.r (lowT t1 r1 b1) (lowR t1 r1 b1) (lowB t1 r1 b1) (lowT t2 r2 b2) (lowR t2 r2 b2) (lowB t2 r2 b2)) = sgn (minus.t t1 r1 b1 t2 r2 b2) (minus.r t1 r1 b1 t2 r2 b2) := by
  obtain ⟨s, hs, e1, e2, e3⟩ := low_pos (t := t1) (r := r1) h1
  obtain ⟨s', hs', e1', e2', e3'⟩ := low_pos (t := t2) (r := r2) h2
  generalize lowT t1 r1 b1 = x at *
  generalize lowR t1 r1 b1 = y at *
  generalize lowB t1 r1 b1 = z at *
  generalize lowT t2 r2 b2 = x' at *
  generalize lowR t2 r2 b2 = y' at *
  generalize lowB t2 r2 b2 = z' at *
  subst e1 e2 e3 e1' e2' e3'
  have k1 : minus.t (x * s) (y * s) (z * s) (x' * s') (y' * s') (z' * s') = minus.t x y z x' y' z' * (s * s') := by unfold minus; dsimp only; grind
  have k2 : minus.r (x * s) (y * s) (z * s) (x' * s') (y' * s') (z' * s') = minus.r x y z x' y' z' * (s * s') := by unfold minus; dsimp only; grind
  rw [k1, k2, sgn_scale (Int.mul_pos hs hs')]
-- needs W9
theorem isTu_same {H H' : Hp} {v : V} (h : Plain H v) (s : Same H H') : isTu H' v = isTu H v := by
  cases h with
  | lst a xs e => rw [isTu_lst e, isTu_lst (s _ _ e)]
  | tup a xs e => rw [isTu_tup e, isTu_tup (s _ _ e)]
  | dK a xs e => rw [isTu_dK e, isTu_dK (s _ _ e)]
  | _ => rfl
/-- an own error of the class C with o in its field f -/
def ErX (C : Addr) (f : Str) (o : V) (H : Hp) (E : XK) : Prop := ∀ d H', H d = none → Same H H' → H' d = some (.xd [(f, o)]) → E (.ref C) (some d) H'
theorem ErX.same {C : Addr} {f : Str} {o : V} {H H' : Hp} {E : XK} (h : ErX C f o H E) (s : Same H H') : ErX C f o H' E := fun d H2 hd s2 e => h d H2 (s.free hd) (s.trans s2) e
theorem dec_len {n k : Nat} : decide (V.int ((n : Nat) : Int) = V.int (k : Int)) = decide (n = k) := decide_eq_decide.mpr ⟨fun h => by injection h with h; omega, fun h => by rw [h]⟩
-- needs W27
local macro_rules | `(tactic| walk_at "s") => `(tactic| first | with_reducible refine L2.My.w_chain ?_ | with_reducible refine L2.My.w_chain3 ?_ | with_reducible refine L2.My.w_bm ?_ | with_reducible refine L2.My.w_forEn ?_ | with_reducible refine L2.My.w_forEnT ?_ | with_reducible refine L2.My.w_lcZT ?_ | with_reducible refine L2.My.w_forZT ?_)
/-! rows of bounds, as lists or as tuples -/
def LT (H : Hp) (a : Addr) (xs : List V) : Prop := H a = some (.lst xs) ∨ H a = some (.tup xs)
theorem LT.same {H H' : Hp} {a : Addr} {xs : List V} (h : LT H a xs) (s : Same H H') : LT H' a xs := h.imp (s _ _) (s _ _)
def NoRow (H : Hp) (v : V) : Prop := v = .non ∨ (∃ b, v = .bl b) ∨ (∃ i, v = .int i) ∨ (∃ s, v = .str s) ∨ ∃ a kvs, v = .ref a ∧ H a = some (.dK kvs)
theorem NoRow.same {H H' : Hp} {v : V} (h : NoRow H v) (s : Same H H') : NoRow H' v := by
  rcases h with h | h | h | h | ⟨a, kvs, rfl, e⟩
  · exact .inl h
  · exact .inr (.inl h)
  · exact .inr (.inr (.inl h))
  · exact .inr (.inr (.inr (.inl h)))
  · exact .inr (.inr (.inr (.inr ⟨a, kvs, rfl, s _ _ e⟩)))
theorem NoRow.ty {K : PySem.W.Frag} {H : Hp} {v : V} (h : NoRow H v) : ∃ t, TyX K H v t ∧ PySem.W.kitAny K t [.type "list", .type "tuple"] = some false := by
  have kb : ∀ (a : String), kitB a "list" = some false → kitB a "tuple" = some false → PySem.W.kitAny K (.type a) [.type "list", .type "tuple"] = some false := fun a h1 h2 => kitAny_cons (kit_ty h1) (fun _ => kitAny_cons (kit_ty h2) (fun _ => kitAny_nil) (by simp)) (by simp)
  rcases h with rfl | ⟨b, rfl⟩ | ⟨i, rfl⟩ | ⟨s, rfl⟩ | ⟨a, kvs, rfl, e⟩
  · exact ⟨_, .base .non, kb "NoneType" (by decide +kernel) (by decide +kernel)⟩
  · exact ⟨_, .base (.bl b), kb "bool" (by decide +kernel) (by decide +kernel)⟩
  · exact ⟨_, .base (.int i), kb "int" (by decide +kernel) (by decide +kernel)⟩
  · exact ⟨_, .base (.str s), kb "str" (by decide +kernel) (by decide +kernel)⟩
  · exact ⟨_, .base (.dK e), kb "dict" (by decide +kernel) (by decide +kernel)⟩
theorem LT.ty {K : PySem.W.Frag} {H : Hp} {a : Addr} {xs : List V} (h : LT H a xs) : ∃ t, TyX K H (.ref a) t ∧ PySem.W.kitAny K t [.type "list", .type "tuple"] = some true := by
  rcases h with e | e
  · exact ⟨_, .base (.lst e), kitAny_cons (b := true) (kit_ty (by decide +kernel)) (by simp) (by simp)⟩
  · exact ⟨_, .base (.tup e), kitAny_cons (b := false) (kit_ty (by decide +kernel)) (fun _ => kitAny_cons (b := true) (kit_ty (by decide +kernel)) (by simp) (by simp)) (by simp)⟩
theorem w_isiLT {K : PySem.W.Frag} {H : Hp} {Q : VK} {v : V} {p : Addr} {t : Value} {b : Bool} (hp : H p = some (.tup [.ty "list", .ty "tuple"])) (ty : TyX K H v t) (k : PySem.W.kitAny K t [.type "list", .type "tuple"] = some b) (q : Q (.bl b) H) : rIsiT K [v, .ref p] H Q :=
  ⟨v, p, _, t, _, b, rfl, hp, .cons (.ty "list") (.cons (.ty "tuple") .nil), ty, k, q⟩
theorem LT.len {K : PySem.W.Frag} {H : Hp} {Q : VK} {a : Addr} {xs : List V} (h : LT H a xs) (q : Q (.int ((xs.length : Nat) : Int)) H) : rLen K [.ref a] H Q := by
  rcases h with e | e
  · exact w_lenL (SqL.of e) q
  · exact w_lenT (SqT.of e) q
theorem LT.ix {K : PySem.W.Frag} {H : Hp} {Q : VK} {a : Addr} {xs : List V} {i : Int} {v : V} (h : LT H a xs) (e : atI xs i = some v) (q : Q v H) : rIx K (.ref a) (.int i) H Q := by
  rcases h with w | w
  · exact w_ixL w e q
  · exact w_ixT w e q
theorem k_forEnLT {K : PySem.W.Frag} {g : TG} {tb : TS} {ta : TA} {σ : L2.St} {H : Hp} {a : Addr} {xs : List V} {nx bk ct : L2.St → Hp → Prop} {rt : VK} (Pv : Nat → L2.St → Hp → Prop) (h : LT H a xs) (hta : ∀ R : List V → Hp → Prop, R [.ref a] H → ta σ H R) (h0 : Pv 0 σ H) (hl : ∀ i σ' H', Pv i σ' H' → ∀ o, H a = some o → H' a = some o)
    (hs : ∀ i x σ H T H', xs[i]? = some x → Pv i σ H → H T = none → Same H H' → H' T = some (.tup [.int (i : Nat), x]) → g (.ref T) σ H' fun σ2 H2 => tb ⟨Pv (i + 1), rt, nx, Pv (i + 1)⟩ σ2 H2) (hd : ∀ σ H, Pv xs.length σ H → nx σ H) : tFor (iOr (iEnum K ta) (iEnumT K ta)) g tb ⟨nx, rt, bk, ct⟩ σ H := by
  rcases h with e | e
  · exact .inl (w_forEn (hta _ (k_forEn Pv (SqL.of e) h0 (fun i σ' H' p => SqL.of (hl i σ' H' p _ e)) hs hd)))
  · exact .inr (w_forEnT (hta _ (k_forEnT Pv (SqT.of e) h0 (fun i σ' H' p => SqT.of (hl i σ' H' p _ e)) hs hd)))
theorem k_tup2S {K : PySem.W.Frag} {T : Addr} {x y : V} {σ σ' : L2.St} {H : Hp} {i j : Nat} {N : L2.St → Hp → Prop} {n : Nat} (hT : SqT K H T [x, y]) (hn : n = 2) (hσ : (σ.set i (some x)).set j (some y) = σ') (q : N σ' H) :
    gTup K n (gCons (gName i) (gCons (gName j) gNil)) (.ref T) σ H N := by
  subst hσ
  exact ⟨T, [x, y], rfl, hT, by rw [hn]; rfl, x, _, rfl, y, [], rfl, rfl, q⟩
theorem sqT_same {K : PySem.W.Frag} {H H' : Hp} {a : Addr} {xs : List V} (h : SqT K H a xs) (s : Same H H') : SqT K H' a xs := by
  rcases h with h | h
  · refine .inl ?_
    rcases h with e | ⟨o, e⟩
    · exact .inl (s _ _ e)
    · exact .inr ⟨o, s _ _ e⟩
  · exact .inr h
/-- over a list, or over a tuple of any kind -/
theorem k_forLS {K : PySem.W.Frag} {g : TG} {tb : TS} {tl : TE} {σ : L2.St} {H : Hp} {a : Addr} {xs : List V} {nx bk ct : L2.St → Hp → Prop} {rt : VK} (Pv : Nat → L2.St → Hp → Prop) (h : H a = some (.lst xs) ∨ SqT K H a xs) (hta : ∀ R : VK, R (.ref a) H → tl σ H R) (h0 : Pv 0 σ H) (hl : ∀ i σ' H', Pv i σ' H' → Same H H')
    (hs : ∀ i x σ H, xs[i]? = some x → Pv i σ H → g x σ H fun σ2 H2 => tb ⟨Pv (i + 1), rt, nx, Pv (i + 1)⟩ σ2 H2) (hd : ∀ σ H, Pv xs.length σ H → nx σ H) : tFor (iOr (iList K tl) (iTup K tl)) g tb ⟨nx, rt, bk, ct⟩ σ H := by
  rcases h with e | e
  · exact .inl (w_forL (hta _ (k_forL Pv (SqL.of e) h0 (fun i σ' H' p => SqL.of (hl i σ' H' p _ _ e)) hs hd)))
  · exact .inr (w_forT (hta _ (k_forS Pv e h0 (fun i σ' H' p => sqT_same e (hl i σ' H' p)) hs hd)))
/-- a comprehension over a tuple of any kind -/
theorem k_lcS {K : PySem.W.Frag} {a : Addr} {xs : List V} {g : TG} {tt : TT} {te : TE} {ws : List Nat} {σ : L2.St} {H : Hp} {Q : VK} (Pv : Nat → Addr → Hp → Prop) (h : SqT K H a xs) (h0 : ∀ D, H D = none → Pv 0 D (upd H D (.lst []))) (hl : ∀ i D H', Pv i D H' → SqT K H' a xs)
    (hs : ∀ i x D H, xs[i]? = some x → Pv i D H → g x (wipe σ ws) H fun σ2 H2 => wipe σ2 ws = wipe σ ws ∧ tt σ2 H2 fun b H3 =>
      if b = true then te σ2 H3 fun y H4 => ∃ acc, H4 D = some (.lst acc) ∧ acc.length < sizeLine ∧ Pv (i + 1) D (upd H4 D (.lst (acc ++ [y]))) else Pv (i + 1) D H3) (hd : ∀ D H, Pv xs.length D H → Q (.ref D) H) : CompT K g tt te ws σ (.ref a) H Q :=
  ⟨a, rfl, ⟨_, h⟩, fun D hD => lc_tup (xs := xs) (fun i H => Pv i D H) (h0 D hD) (fun i H _ q => hl i D H q) (fun i x H hx q => hs i x D H hx q) (fun H q => hd D H q)⟩
/-- a bound -/
structure Bn where
  d : Nat
  t : Int
  r : Int
  b : Int
def Bn.ok (x : Bn) : Prop := x.d < 8 ∧ 0 < x.b ∧ Bw 1000 x.t ∧ Bw 1000 x.r ∧ Bw 1000 x.b
def BnAt (c : Addr) (H : Hp) (v : V) (x : Bn) : Prop := ∃ p y, v = .ref p ∧ H p = some (.tup [.int (x.d : Nat), y]) ∧ NumAt c H y x.t x.r x.b ∧ Sm x.t x.r x.b
theorem BnAt.same {c : Addr} {H H' : Hp} {v : V} {x : Bn} (h : BnAt c H v x) (s : Same H H') : BnAt c H' v x := by
  obtain ⟨p, y, rfl, e, n, m⟩ := h
  exact ⟨p, y, rfl, s _ _ e, n.same s, m⟩
def BnsAt (c : Addr) (H : Hp) (vs : List V) (xs : List Bn) : Prop := vs.length = xs.length ∧ ∀ (i : Nat) v x, vs[i]? = some v → xs[i]? = some x → BnAt c H v x
theorem BnsAt.same {c : Addr} {H H' : Hp} {vs : List V} {xs : List Bn} (h : BnsAt c H vs xs) (s : Same H H') : BnsAt c H' vs xs := ⟨h.1, fun i v x h1 h2 => (h.2 i v x h1 h2).same s⟩
theorem BnsAt.get {c : Addr} {H : Hp} {vs : List V} {xs : List Bn} (h : BnsAt c H vs xs) {i : Nat} {v : V} (e : vs[i]? = some v) : ∃ x, xs[i]? = some x ∧ BnAt c H v x := by
  have hi : i < xs.length := by rw [← h.1]; exact (List.getElem?_eq_some_iff.mp e).1
  exact ⟨xs[i], List.getElem?_eq_getElem hi, h.2 i v _ e (List.getElem?_eq_getElem hi)⟩
theorem BnsAt.at' {c : Addr} {H : Hp} {vs : List V} {xs : List Bn} (h : BnsAt c H vs xs) {i : Nat} {x : Bn} (e : xs[i]? = some x) : ∃ v, vs[i]? = some v ∧ BnAt c H v x := by
  have hi : i < vs.length := by rw [h.1]; exact (List.getElem?_eq_some_iff.mp e).1
  exact ⟨vs[i], List.getElem?_eq_getElem hi, h.2 i _ x (List.getElem?_eq_getElem hi) e⟩
/-- a thing that is no bound -/
def NoBn (Z : Zs) (H : Hp) (v : V) : Prop := (Plain H v ∧ isTu H v = false) ∨ (∃ p xs, v = .ref p ∧ H p = some (.tup xs) ∧ xs.length ≠ 2) ∨ ∃ p x y, v = .ref p ∧ H p = some (.tup [x, y]) ∧ Th Z.c_Root H x ∧ Th Z.c_Root H y ∧
  (isI x = false ∨ ∃ i, x = .int i ∧ (¬ (0 ≤ i ∧ i ≤ 7) ∨ 0 ≤ i ∧ i ≤ 7 ∧ isN Z.c_Root H y = false))
theorem th_isN {c : Addr} {H H' : Hp} {v : V} (h : Th c H v) (s : Same H H') : isN c H' v = isN c H v := by
  unfold isN
  congr 1
  cases h with
  | root a dx t r b e => rw [(show RootAt c H _ t r b from ⟨a, dx, rfl, e⟩).isC, (show RootAt c H' _ t r b from ⟨a, dx, rfl, s _ _ e⟩).isC]
  | lst a xs e => show (match H' a with | some (.ins C _ _) => decide (C = c) | _ => false) = (match H a with | some (.ins C _ _) => decide (C = c) | _ => false); rw [e, s _ _ e]
  | tup a xs e => show (match H' a with | some (.ins C _ _) => decide (C = c) | _ => false) = (match H a with | some (.ins C _ _) => decide (C = c) | _ => false); rw [e, s _ _ e]
  | dK a xs e => show (match H' a with | some (.ins C _ _) => decide (C = c) | _ => false) = (match H a with | some (.ins C _ _) => decide (C = c) | _ => false); rw [e, s _ _ e]
  | _ => rfl
theorem NoBn.same {Z : Zs} {H H' : Hp} {v : V} (h : NoBn Z H v) (s : Same H H') : NoBn Z H' v := by
  rcases h with ⟨pl, nt⟩ | ⟨p, xs, rfl, hp, ne⟩ | ⟨p, x, y, rfl, hp, tx, ty, hh⟩
  · exact .inl ⟨pl.same s, (isTu_same pl s).trans nt⟩
  · exact .inr (.inl ⟨p, xs, rfl, s _ _ hp, ne⟩)
  · refine .inr (.inr ⟨p, x, y, rfl, s _ _ hp, tx.same s, ty.same s, hh.imp id ?_⟩)
    rintro ⟨i, e, w⟩
    exact ⟨i, e, w.imp id fun ⟨a, b, c⟩ => ⟨a, b, (th_isN ty s).trans c⟩⟩
def BndBad (Z : Zs) (H : Hp) (v : V) (n : Int) : Prop := NoRow H v ∧ n = -1 ∨ ∃ a xs, v = .ref a ∧ LT H a xs ∧ xs.length ≤ 1000 ∧ (400 < xs.length ∧ n = -1 ∨ xs.length ≤ 400 ∧ ∃ k x, n = (k : Nat) ∧ xs[k]? = some x ∧ NoBn Z H x ∧ ∀ i y, i < k → xs[i]? = some y → ∃ z, BnAt Z.c_Root H y z ∧ z.d < 8)
def BndOk (Z : Zs) (H : Hp) (v : V) (xs : List Bn) : Prop := ∃ a vs, v = .ref a ∧ LT H a vs ∧ vs.length ≤ 400 ∧ BnsAt Z.c_Root H vs xs ∧ ∀ x ∈ xs, Bn.ok x
abbrev s_is_bound : Stmt := top 15
theorem sc_is_bound : FnScope ["thing"] ["thing"] (defScope s_is_bound) := ⟨rfl, rfl, rfl, by decide +kernel, rfl, by decide +kernel, by decide +kernel⟩

def sp_is_bound (Z : Zs) : Sp := fun vs H Q E =>
  ∃ v, vs = [v] ∧ (NoBn Z H v ∧ (∀ H', Same H H' → Q (.bl false) H') ∨ ∃ x, BnAt Z.c_Root H v x ∧ x.d < 8 ∧ ∀ H', Same H H' → Q (.bl true) H')
theorem ok_is_bound (T : Txt Z mg) (h_is_number : Has P w Z.K mg base "is_number" 2 ["thing"] (sp_is_number Z)) (h_is_integral : Has P w Z.K mg base "is_integral" 1 ["thing"] (sp_is_integral Z)) (D : AtF Z.K mg "is_bound" "is_bound" s_is_bound ["thing"]) : Has P w Z.K mg base "is_bound" 3 ["thing"] (sp_is_bound Z) := by
  refine D.ok sc_is_bound (fun vs H Q E h => ?_) (fun cdv A outer s H vs Q E hr h => ?_)
  · obtain ⟨v, rfl, _⟩ := h
    rfl
  · refine ⟨_, (pss_cons (ps_if (PW.pt (pw_or (pt_not (pt_val (pe_callB call_isi rfl T.n_isinstance (by decide +kernel) (pa_cons (pv 0) (pa_cons (pe_bltn (v := .ty "tuple") rfl T.n_tuple (by decide +kernel) rfl) pa_nil))))) (pw_or1 (pt_cmpR op_ne (pe_callB cn_len rfl T.n_len (by decide +kernel) (pa_cons (pv 0) pa_nil)) pe_int (nomark _))))) (pss_one (ps_ret pe_bl)) pss_nil)
      (pss_one (ps_ret (pe_and (pe_h (E := ED E) h_is_integral hr (paW (takes_of rfl rfl rfl rfl)) (pa_cons (pe_ix ix_seq (pv 0) pe_int (fun _ _ => rfl)) pa_nil)) (pe_and (pe_chain op_le op_le pe_int (pe_ix ix_seq (pv 0) pe_int (fun _ _ => rfl)) pe_int) (pe_one (pe_h (E := ED E) h_is_number hr (paW (takes_of rfl rfl rfl rfl)) (pa_cons (pe_ix ix_seq (pv 0) pe_int (fun _ _ => rfl)) pa_nil)))))))), ?_⟩
    try simp only [cxOf]
    obtain ⟨v, rfl, hh⟩ := h
    walk_at "W"
    rcases hh with ⟨⟨pl, nt⟩ | ⟨p, xs, rfl, e, nl⟩ | ⟨p, x, y, rfl, e, tx, ty, hh⟩, q⟩ | ⟨x, ⟨p, y, rfl, e, ny, sm⟩, d8, q⟩
    · obtain ⟨t, hty, _, _, k⟩ := pl.ty (K := Z.K)
      rw [nt] at k
      refine w_isi hty k ?_
      walk_at "W"
      exact q H (Same.refl _)
    all_goals
      obtain ⟨t, hty, _, _, k⟩ := (Plain.tup p _ e).ty (K := Z.K)
      rw [isTu_tup e] at k
      refine w_isi hty k ?_
      walk_at "W"
      refine w_lenT (SqT.of e) ?_
      walk_at "W"
    · rw [show decide (V.int ((xs.length : Nat) : Int) = V.int 2) = false from (dec_len (k := 2)).trans (decide_eq_false nl)]
      walk_at "W"
      exact q H (Same.refl _)
    · refine ⟨x, rfl, tx, ?_⟩
      rcases hh with f | ⟨i, rfl, hh⟩
      · rw [f]
        walk_at "W"
        exact q H (Same.refl _)
      walk_at "W"
      by_cases h0 : 0 ≤ i
      · rw [decide_eq_true h0]
        walk_at "W"
        by_cases h7 : i ≤ 7
        · rw [decide_eq_true h7]
          walk_at "W"
          refine ⟨y, rfl, ty, ?_⟩
          rw [(hh.resolve_left (fun z => z ⟨h0, h7⟩)).2.2]
          exact q H (Same.refl _)
        · rw [decide_eq_false h7]
          walk_at "W"
          exact q H (Same.refl _)
      · rw [decide_eq_false h0]
        walk_at "W"
        exact q H (Same.refl _)
    · refine ⟨_, rfl, (Plain.int _).thI, ?_⟩
      walk_at "W"
      rw [decide_eq_true (show (x.d : Int) ≤ 7 by omega)]
      walk_at "W"
      refine ⟨y, rfl, ny.th, ?_⟩
      rw [ny.isN]
      exact q H (Same.refl _)
abbrev s_check_bounds : Stmt := top 16
theorem sc_check_bounds : FnScope ["bounds", "index", "bound"] ["bounds"] (defScope s_check_bounds) := ⟨rfl, rfl, rfl, by decide +kernel, rfl, by decide +kernel, by decide +kernel⟩

def sp_check_bounds (Z : Zs) : Sp := fun vs H Q E =>
  ∃ v, vs = [v] ∧ ((∃ n, BndBad Z H v n ∧ ErX Z.c_BadBounds "index" (.int n) H E) ∨ ∃ xs, BndOk Z H v xs ∧ ∀ H', Same H H' → Q .non H')
theorem ok_check_bounds (T : Txt Z mg) (h_is_bound : Has P w Z.K mg base "is_bound" 3 ["thing"] (sp_is_bound Z)) (h_BadBounds : HasX P w Z.K mg base "BadBounds" Z.c_BadBounds 1 ["self", "index"] (sp_BadBounds_init Z)) (D : AtF Z.K mg "check_bounds" "check_bounds" s_check_bounds ["bounds"]) : Has P w Z.K mg base "check_bounds" 4 ["bounds"] (sp_check_bounds Z) := by
  refine D.ok sc_check_bounds (fun vs H Q E h => ?_) (fun cdv A outer s H vs Q E hr h => ?_)
  · obtain ⟨v, rfl, _⟩ := h
    rfl
  · refine ⟨_, (pss_cons (ps_if (PW.pt (pw_or (pt_not (pt_val (pe_callB call_isiT rfl T.n_isinstance (by decide +kernel) (pa_cons (pv 0) (pa_cons (pe_tup (pa_cons (pe_bltn (v := .ty "list") rfl T.n_list (by decide +kernel) rfl) (pa_cons (pe_bltn (v := .ty "tuple") rfl T.n_tuple (by decide +kernel) rfl) pa_nil))) pa_nil))))) (pw_or1 (pt_cmpR op_gt (pe_callB cn_len rfl T.n_len (by decide +kernel) (pa_cons (pv 0) pa_nil)) (C8.pe_gc (v := .int 400) rfl T.g_MOST_BOUNDS) (nomark _))))) (pss_one (ps_raise rfl (takes_of rfl rfl rfl rfl) (pm_h T.x_BadBounds h_BadBounds hr (pa_cons (pe_un un_neg pe_int) pa_nil)))) pss_nil)
      (pss_one (ps_for (passes_of rfl) rfl (pi_enumS rfl T.n_enumerate (pa_cons (pv 0) pa_nil)) (pg_tup rfl (pgs_cons (pg_name (i := 1) sc_check_bounds.nd rfl (Or.inl rfl)) (pgs_cons (pg_name (i := 2) sc_check_bounds.nd rfl (Or.inl rfl)) pgs_nil))) (pss_one (ps_if (pt_not (pt_val (pe_h (E := ED E) h_is_bound hr (paW (takes_of rfl rfl rfl rfl)) (pa_cons (pv 2) pa_nil)))) (pss_one (ps_raise rfl (takes_of rfl rfl rfl rfl) (pm_h T.x_BadBounds h_BadBounds hr (pa_cons (pv 1) pa_nil)))) pss_nil))))), ?_⟩
    try simp only [cxOf]
    obtain ⟨v, rfl, hh⟩ := h
    walk_at "W"
    refine k_tup rfl fun pt H1 hpt s1 et => ?_
    walk_at "W"
    rcases hh with ⟨n, hb | ⟨a, xs, rfl, lt, l1, hb⟩, er⟩ | ⟨bs, ⟨a, xs, rfl, lt, l1, hall, hok⟩, q⟩
    · obtain ⟨nr, rfl⟩ := hb
      obtain ⟨t, ty, k⟩ := (nr.same s1).ty (K := Z.K)
      refine w_isiLT et ty k ?_
      walk_at "W"
      exact k_mkO (er.same s1)
    all_goals
      obtain ⟨t, ty, k⟩ := (lt.same s1).ty (K := Z.K)
      refine w_isiLT et ty k ?_
      walk_at "W"
      refine (lt.same s1).len ?_
      walk_at "W"
    · rcases hb with ⟨hm, rfl⟩ | ⟨hm, k, x, rfl, hx, hno, hok⟩
      · rw [decide_eq_true (by omega)]
        walk_at "W"
        exact k_mkO (er.same s1)
      rw [decide_eq_false (by omega)]
      walk_at "W"
      have kl : k < xs.length := (List.getElem?_eq_some_iff.mp hx).1
      have body : ∀ {i : Nat} {y : V} {H2 H3 : Hp}, xs[i]? = some y → i ≤ k → Same H H2 → Same H2 H3 → (i < k ∧ (∃ z, BnAt Z.c_Root H3 y z ∧ z.d < 8) ∨ i = k ∧ NoBn Z H3 y) := fun {i y H2 H3} hy hik s2 s3 => by
        rcases Nat.lt_or_ge i k with h | h
        · obtain ⟨z, hz, d8⟩ := hok i y h hy
          exact .inl ⟨h, z, hz.same (s2.trans s3), d8⟩
        · obtain rfl : i = k := by omega
          rw [hx] at hy
          cases hy
          exact .inr ⟨rfl, hno.same (s2.trans s3)⟩
      rcases lt.same s1 with e | e
      · refine w_forOL ?_
        walk_at "W"
        refine k_forEn (xs := xs) (fun i σ' H' => i ≤ k ∧ Same H H' ∧ ∃ z1 z2, σ' = [some (.ref a), z1, z2]) (SqL.of e) ⟨Nat.zero_le _, s1, _, _, rfl⟩ (fun i σ' H' h => SqL.of (by rcases lt with w | w; exact h.2.1 _ _ w; exact absurd (e.symm.trans (s1 _ _ w)) (by simp))) ?_ ?_
        · rintro i y σ' H2 T H3 hy ⟨hik, s2, z1, z2, rfl⟩ hT s3 eT
          have bd := body hy hik s2 s3
          refine k_tupl2 eT rfl rfl ?_
          walk_at "W"
          rcases bd with ⟨hk, z, hz, d8⟩ | ⟨rfl, hn⟩
          · refine ⟨y, rfl, .inr ⟨z, hz, d8, fun H4 s4 => ?_⟩⟩
            walk_at "W"
            exact ⟨hk, s2.trans (s3.trans s4), _, _, rfl⟩
          · refine ⟨y, rfl, .inl ⟨hn, fun H4 s4 => ?_⟩⟩
            walk_at "W"
            exact k_mkO (er.same (s2.trans (s3.trans s4)))
        · rintro σ' H2 ⟨hik, _⟩
          omega
      · refine w_forOT ?_
        walk_at "W"
        refine k_forEnT (xs := xs) (fun i σ' H' => i ≤ k ∧ Same H H' ∧ ∃ z1 z2, σ' = [some (.ref a), z1, z2]) (SqT.of e) ⟨Nat.zero_le _, s1, _, _, rfl⟩ (fun i σ' H' h => SqT.of (by rcases lt with w | w; exact absurd (e.symm.trans (s1 _ _ w)) (by simp); exact h.2.1 _ _ w)) ?_ ?_
        · rintro i y σ' H2 T H3 hy ⟨hik, s2, z1, z2, rfl⟩ hT s3 eT
          have bd := body hy hik s2 s3
          refine k_tupl2 eT rfl rfl ?_
          walk_at "W"
          rcases bd with ⟨hk, z, hz, d8⟩ | ⟨rfl, hn⟩
          · refine ⟨y, rfl, .inr ⟨z, hz, d8, fun H4 s4 => ?_⟩⟩
            walk_at "W"
            exact ⟨hk, s2.trans (s3.trans s4), _, _, rfl⟩
          · refine ⟨y, rfl, .inl ⟨hn, fun H4 s4 => ?_⟩⟩
            walk_at "W"
            exact k_mkO (er.same (s2.trans (s3.trans s4)))
        · rintro σ' H2 ⟨hik, _⟩
          omega
    · rw [decide_eq_false (by omega)]
      walk_at "W"
      rcases lt.same s1 with e | e
      · refine w_forOL ?_
        walk_at "W"
        refine k_forEn (xs := xs) (fun i σ' H' => Same H H' ∧ ∃ z1 z2, σ' = [some (.ref a), z1, z2]) (SqL.of e) ⟨s1, _, _, rfl⟩ (fun i σ' H' h => SqL.of (by rcases lt with w | w; exact h.1 _ _ w; exact absurd (e.symm.trans (s1 _ _ w)) (by simp))) ?_ ?_
        · rintro i y σ' H2 T H3 hy ⟨s2, z1, z2, rfl⟩ hT s3 eT
          refine k_tupl2 eT rfl rfl ?_
          walk_at "W"
          obtain ⟨z, ez, hz⟩ := hall.get hy
          refine ⟨y, rfl, .inr ⟨z, hz.same (s2.trans s3), (hok z (List.mem_of_getElem? ez)).1, fun H4 s4 => ?_⟩⟩
          walk_at "W"
          exact ⟨s2.trans (s3.trans s4), _, _, rfl⟩
        · rintro σ' H2 ⟨s2, z1, z2, rfl⟩
          exact q H2 s2
      · refine w_forOT ?_
        walk_at "W"
        refine k_forEnT (xs := xs) (fun i σ' H' => Same H H' ∧ ∃ z1 z2, σ' = [some (.ref a), z1, z2]) (SqT.of e) ⟨s1, _, _, rfl⟩ (fun i σ' H' h => SqT.of (by rcases lt with w | w; exact absurd (e.symm.trans (s1 _ _ w)) (by simp); exact h.1 _ _ w)) ?_ ?_
        · rintro i y σ' H2 T H3 hy ⟨s2, z1, z2, rfl⟩ hT s3 eT
          refine k_tupl2 eT rfl rfl ?_
          walk_at "W"
          obtain ⟨z, ez, hz⟩ := hall.get hy
          refine ⟨y, rfl, .inr ⟨z, hz.same (s2.trans s3), (hok z (List.mem_of_getElem? ez)).1, fun H4 s4 => ?_⟩⟩
          walk_at "W"
          exact ⟨s2.trans (s3.trans s4), _, _, rfl⟩
        · rintro σ' H2 ⟨s2, z1, z2, rfl⟩
          exact q H2 s2
theorem w_app {l : Addr} {y : V} {xs : List V} {H : Hp} {Q : VK} (h : H l = some (.lst xs)) (hl : xs.length < sizeLine) (q : ∀ H2, SameX l H H2 → Kpt H H2 → H2 l = some (.lst (xs ++ [y])) → Q .non H2) : rAppend (.ref l) [y] H Q :=
  ⟨l, xs, y, rfl, rfl, h, hl, q _ (SameX.upd fun _ _ _ e => e) (Kpt.updL h) upd_same⟩
theorem few_lt {n : Nat} (h : n ≤ 83521) : n < sizeLine := by
  rw [sizeLine_eq]
  omega
theorem k_tupN {K : PySem.W.Frag} {T q : Addr} {x y z : V} {σ σ' : L2.St} {H : Hp} {i j k : Nat} {N : L2.St → Hp → Prop} {n m : Nat} (hT : H T = some (.tup [x, .ref q])) (hq : SqT K H q [y, z]) (hn : n = 2) (hm : m = 2) (hσ : ((σ.set i (some x)).set j (some y)).set k (some z) = σ') (h : N σ' H) :
    gTup K n (gCons (gName i) (gCons (gTup K m (gCons (gName j) (gCons (gName k) gNil))) gNil)) (.ref T) σ H N := by
  subst hσ
  exact ⟨T, _, rfl, SqT.of hT, by rw [hn]; rfl, x, _, rfl, .ref q, [], rfl, q, _, rfl, hq, by rw [hm]; rfl, y, _, rfl, z, [], rfl, rfl, rfl, h⟩
theorem ixN_at {n k : Nat} (h : k < n) : ixN n (k : Int) = some k := by
  unfold ixN
  rw [if_pos (by omega), if_pos (by omega)]
  rfl
def vecs : List (Int × Int) := [(1, 0), (1, 1), (0, 1), (-1, 1), (-1, 0), (-1, -1), (0, -1), (1, -1)]
def vx (d : Nat) : Int := (vecs.getD d (0, 0)).1
def vy (d : Nat) : Int := (vecs.getD d (0, 0)).2
theorem d8_cases {d : Nat} (h : d < 8) {P : Nat → Prop} (h0 : P 0) (h1 : P 1) (h2 : P 2) (h3 : P 3) (h4 : P 4) (h5 : P 5) (h6 : P 6) (h7 : P 7) : P d := by
  have : d = 0 ∨ d = 1 ∨ d = 2 ∨ d = 3 ∨ d = 4 ∨ d = 5 ∨ d = 6 ∨ d = 7 := by omega
  rcases this with rfl | rfl | rfl | rfl | rfl | rfl | rfl | rfl <;> assumption
theorem v_bw {d : Nat} (h : d < 8) : Bw 1 (vx d) ∧ Bw 1 (vy d) := by
  refine d8_cases h (P := fun d => Bw 1 (vx d) ∧ Bw 1 (vy d)) ?_ ?_ ?_ ?_ ?_ ?_ ?_ ?_ <;> (unfold Bw; exact ⟨by decide, by decide⟩)
theorem sm_int {i : Int} (h : Bw 1000 i) : Sm i 0 1 := by
  have s := Sm.low (t := i) (r := 0) (b := 1) (by decide) h (Bw.zero.mono (by decide)) (Bw.one.mono (by decide))
  obtain ⟨e1, e2, e3⟩ := low1 i
  rwa [e1, e2, e3] at s
/-- v_d . p -/
def twT (d : Nat) (t b t' b' : Int) : Int := vx d * t * b' + vy d * t' * b
theorem Sm.pos {t r b : Int} (h : Sm t r b) : 0 < b := h.lw.pos
theorem vec_at {mg : Str → Option Value} (T : Txt Z mg) : ∃ xs, (∀ H, SqT Z.K H Z.c_VECTORS xs) ∧ ∀ d, d < 8 → ∃ q, xs[d]? = some (.ref q) ∧ ∀ H, SqT Z.K H q [.int (vx d), .int (vy d)] := by
  obtain ⟨a, xs, e, hs, l, k⟩ := T.d_VECTORS.tup
  cases e
  refine ⟨xs, hs, fun d hd => ?_⟩
  have ex : ([.tuple [.int 1, .int 0], .tuple [.int 1, .int 1], .tuple [.int 0, .int 1], .tuple [.int (-1), .int 1], .tuple [.int (-1), .int 0], .tuple [.int (-1), .int (-1)], .tuple [.int 0, .int (-1)], .tuple [.int 1, .int (-1)]] : List PyData)[d]? = some (.tuple [.int (vx d), .int (vy d)]) := by
    refine d8_cases hd (P := fun d => ([.tuple [.int 1, .int 0], .tuple [.int 1, .int 1], .tuple [.int 0, .int 1], .tuple [.int (-1), .int 1], .tuple [.int (-1), .int 0], .tuple [.int (-1), .int (-1)], .tuple [.int 0, .int (-1)], .tuple [.int 1, .int (-1)]] : List PyData)[d]? = some (.tuple [.int (vx d), .int (vy d)])) ?_ ?_ ?_ ?_ ?_ ?_ ?_ ?_ <;> rfl
  obtain ⟨x, hx, kx⟩ := k d _ ex
  obtain ⟨q, rfl, hq⟩ := kx.pair
  exact ⟨q, hx, hq⟩
/-! the least bound in each direction -/
def ltBn (x y : Bn) : Bool := decide (sgn (minus.t x.t x.r x.b y.t y.r y.b) (minus.r x.t x.r x.b y.t y.r y.b) < 0)
def leastStep (bs : List Bn) (os : List (Option Nat)) (i : Nat) (x : Bn) : List (Option Nat) := match os.getD x.d none with
  | none => os.set x.d (some i)
  | some j => match bs[j]? with
    | none => os
    | some y => if ltBn x y = true then os.set x.d (some i) else os
def leastI (bs : List Bn) : Nat → List (Option Nat)
  | 0 => List.replicate 8 none
  | n + 1 => match bs[n]? with
    | none => leastI bs n
    | some x => leastStep bs (leastI bs n) n x
def optV : Option Nat → V
  | none => .non
  | some j => .int (j : Nat)
theorem leastStep_len {bs : List Bn} {os : List (Option Nat)} {i : Nat} {x : Bn} : (leastStep bs os i x).length = os.length := by
  unfold leastStep
  split
  · exact List.length_set
  · split
    · rfl
    · split
      · exact List.length_set
      · rfl
theorem leastI_len {bs : List Bn} : ∀ {n : Nat}, (leastI bs n).length = 8
  | 0 => List.length_replicate
  | n + 1 => by
    unfold leastI
    split
    · exact leastI_len
    · rw [leastStep_len]
      exact leastI_len
theorem leastStep_or {bs : List Bn} {os : List (Option Nat)} {i : Nat} {x : Bn} : leastStep bs os i x = os ∨ leastStep bs os i x = os.set x.d (some i) := by
  unfold leastStep
  split
  · exact .inr rfl
  · split
    · exact .inl rfl
    · split
      · exact .inr rfl
      · exact .inl rfl
theorem leastI_lt {bs : List Bn} : ∀ {n : Nat} {d j : Nat}, (leastI bs n).getD d none = some j → j < n ∧ ∃ y, bs[j]? = some y ∧ y.d = d
  | 0, d, j, h => by
    unfold leastI at h
    rw [List.getD_eq_getElem?_getD, List.getElem?_replicate] at h
    split at h <;> simp at h
  | n + 1, d, j, h => by
    have ih := fun {d j} => leastI_lt (bs := bs) (n := n) (d := d) (j := j)
    unfold leastI at h
    split at h
    · obtain ⟨a, b⟩ := ih h
      exact ⟨by omega, b⟩
    · rename_i x hx
      rcases leastStep_or (bs := bs) (os := leastI bs n) (i := n) (x := x) with e | e
      · rw [e] at h
        obtain ⟨a, b⟩ := ih h
        exact ⟨by omega, b⟩
      · rw [e, List.getD_eq_getElem?_getD, List.getElem?_set] at h
        split at h
        · rename_i e
          subst e
          split at h
          · cases h
            exact ⟨by omega, x, hx, rfl⟩
          · cases h
        · rw [← List.getD_eq_getElem?_getD] at h
          obtain ⟨a, b⟩ := ih h
          exact ⟨by omega, b⟩
/-- the least bounds, direction by direction -/
def leastN (bs : List Bn) : List (Option Bn) := (leastI bs bs.length).map fun o => o.bind fun j => bs[j]?
def NmAt (c : Addr) (H : Hp) (z : V) : Option Bn → Prop
  | none => z = .non
  | some x => RootAt c H z x.t x.r x.b ∧ Sm x.t x.r x.b
def NmsAt (c : Addr) (H : Hp) (zs : List V) (ns : List (Option Bn)) : Prop := zs.length = ns.length ∧ ∀ (i : Nat) z o, zs[i]? = some z → ns[i]? = some o → NmAt c H z o
theorem NmAt.same {c : Addr} {H H' : Hp} {z : V} {o : Option Bn} (h : NmAt c H z o) (s : Same H H') : NmAt c H' z o := by
  cases o with
  | none => exact h
  | some x => exact ⟨h.1.same s, h.2⟩
theorem NmAt.kps {c : Addr} {H H' : Hp} {z : V} {o : Option Bn} (h : NmAt c H z o) (s : Kps H H') : NmAt c H' z o := by
  cases o with
  | none => exact h
  | some x =>
    obtain ⟨⟨a, dx, rfl, e⟩, m⟩ := h
    exact ⟨⟨a, dx, rfl, s _ _ (by intro xs z; cases z) e⟩, m⟩
theorem NmsAt.kps {c : Addr} {H H' : Hp} {zs : List V} {ns : List (Option Bn)} (h : NmsAt c H zs ns) (s : Kps H H') : NmsAt c H' zs ns := ⟨h.1, fun i z o h1 h2 => (h.2 i z o h1 h2).kps s⟩
theorem NmsAt.add {c : Addr} {H : Hp} {zs : List V} {ns : List (Option Bn)} {z : V} {o : Option Bn} (h : NmsAt c H zs ns) (k : NmAt c H z o) : NmsAt c H (zs ++ [z]) (ns ++ [o]) := by
  refine ⟨by simp [h.1], fun i y p h1 h2 => ?_⟩
  rcases Nat.lt_trichotomy i zs.length with l | l | l
  · rw [List.getElem?_append_left l] at h1
    rw [List.getElem?_append_left (by rw [← h.1]; exact l)] at h2
    exact h.2 i y p h1 h2
  · rw [List.getElem?_append_right (by omega), l, Nat.sub_self] at h1
    rw [List.getElem?_append_right (by rw [← h.1]; omega), ← h.1, l, Nat.sub_self] at h2
    cases h1
    cases h2
    exact k
  · rw [List.getElem?_eq_none (by simp; omega)] at h1
    cases h1
/-- the common bottom -/
def comB : List (Option Bn) → Int → Int
  | [], B => B
  | none :: ns, B => comB ns B
  | some x :: ns, B => comB ns ((B.natAbs.lcm x.b.natAbs : Nat) : Int)
def prO (B : Int) (o : Option Bn) : Option (Int × Int) := o.map fun x => (x.t * (B / x.b), x.r * (B / x.b))
def PrAt (H : Hp) (z : V) : Option (Int × Int) → Prop
  | none => z = .non
  | some p => ∃ q, z = .ref q ∧ H q = some (.tup [.int p.1, .int p.2])
def PrsAt (H : Hp) (zs : List V) (ps : List (Option (Int × Int))) : Prop := zs.length = ps.length ∧ ∀ (i : Nat) z o, zs[i]? = some z → ps[i]? = some o → PrAt H z o
theorem PrAt.kps {H H' : Hp} {z : V} {o : Option (Int × Int)} (h : PrAt H z o) (s : Kps H H') : PrAt H' z o := by
  cases o with
  | none => exact h
  | some x =>
    obtain ⟨q, rfl, e⟩ := h
    exact ⟨q, rfl, s.tup e⟩
theorem PrsAt.kps {H H' : Hp} {zs : List V} {ns : List (Option (Int × Int))} (h : PrsAt H zs ns) (s : Kps H H') : PrsAt H' zs ns := ⟨h.1, fun i z o h1 h2 => (h.2 i z o h1 h2).kps s⟩
theorem PrsAt.add {H : Hp} {zs : List V} {ns : List (Option (Int × Int))} {z : V} {o : Option (Int × Int)} (h : PrsAt H zs ns) (k : PrAt H z o) : PrsAt H (zs ++ [z]) (ns ++ [o]) := by
  refine ⟨by simp [h.1], fun i y p h1 h2 => ?_⟩
  rcases Nat.lt_trichotomy i zs.length with l | l | l
  · rw [List.getElem?_append_left l] at h1
    rw [List.getElem?_append_left (by rw [← h.1]; exact l)] at h2
    exact h.2 i y p h1 h2
  · rw [List.getElem?_append_right (by omega), l, Nat.sub_self] at h1
    rw [List.getElem?_append_right (by rw [← h.1]; omega), ← h.1, l, Nat.sub_self] at h2
    cases h1
    cases h2
    exact k
  · rw [List.getElem?_eq_none (by simp; omega)] at h1
    cases h1
def Bn.okO (o : Option Bn) : Prop := ∀ x, o = some x → Bn.ok x
theorem lcm_pos' {B b : Int} (h : 0 < B) (k : 0 < b) : 0 < ((B.natAbs.lcm b.natAbs : Nat) : Int) := by
  have := Nat.lcm_pos (m := B.natAbs) (n := b.natAbs) (by omega) (by omega)
  omega
theorem lcm_bw {n m : Nat} {B b : Int} (h : Bw n B) (k : Bw m b) : Bw (n + m) ((B.natAbs.lcm b.natAbs : Nat) : Int) := by
  unfold Bw at *
  rw [Int.natAbs_natCast, Nat.pow_add]
  exact Nat.lt_of_le_of_lt (PySem.W.mc_lcm_le _ _) (Nat.mul_lt_mul'' h k)
theorem lcm_dvd {B b : Int} : B ∣ ((B.natAbs.lcm b.natAbs : Nat) : Int) ∧ b ∣ ((B.natAbs.lcm b.natAbs : Nat) : Int) :=
  ⟨Int.natAbs_dvd_natAbs.mp (by rw [Int.natAbs_natCast]; exact Nat.dvd_lcm_left _ _), Int.natAbs_dvd_natAbs.mp (by rw [Int.natAbs_natCast]; exact Nat.dvd_lcm_right _ _)⟩
theorem comB_ok : ∀ {ns : List (Option Bn)} {B : Int}, (∀ o ∈ ns, Bn.okO o) → 0 < B → 0 < comB ns B ∧ B ∣ comB ns B ∧ ∀ x, some x ∈ ns → x.b ∣ comB ns B
  | [], B, _, h => ⟨h, Int.dvd_refl _, fun x hx => by cases hx⟩
  | none :: ns, B, ho, h => by
    obtain ⟨a, c, d⟩ := comB_ok (ns := ns) (fun o hm => ho o (List.mem_cons_of_mem _ hm)) h
    refine ⟨a, c, fun x hx => ?_⟩
    rcases List.mem_cons.mp hx with e | hx
    · cases e
    · exact d x hx
  | some y :: ns, B, ho, h => by
    have oy := ho _ (List.mem_cons_self ..) y rfl
    obtain ⟨a, c, d⟩ := comB_ok (ns := ns) (fun o hm => ho o (List.mem_cons_of_mem _ hm)) (lcm_pos' h oy.2.1)
    obtain ⟨d1, d2⟩ := lcm_dvd (B := B) (b := y.b)
    refine ⟨a, Int.dvd_trans d1 c, fun x hx => ?_⟩
    rcases List.mem_cons.mp hx with e | hx
    · cases e
      exact Int.dvd_trans d2 c
    · exact d x hx
theorem comB_bw {k : Nat} : ∀ {ns : List (Option Bn)} {B : Int} {n : Nat}, (∀ x, some x ∈ ns → Bw k x.b) → Bw n B → Bw (n + k * ns.length) (comB ns B)
  | [], B, n, _, w => w
  | none :: ns, B, n, ho, w => (comB_bw (ns := ns) (fun x hx => ho x (List.mem_cons_of_mem _ hx)) w).mono (by rw [List.length_cons, Nat.mul_succ]; omega)
  | some y :: ns, B, n, ho, w => (comB_bw (ns := ns) (fun x hx => ho x (List.mem_cons_of_mem _ hx)) (lcm_bw w (ho y (List.mem_cons_self ..)))).mono (by rw [List.length_cons, Nat.mul_succ]; omega)
theorem comB_dvd {D : Int} : ∀ {ns : List (Option Bn)} {B : Int}, (∀ x, some x ∈ ns → x.b ∣ D) → B ∣ D → comB ns B ∣ D
  | [], B, _, w => w
  | none :: ns, B, ho, w => comB_dvd (ns := ns) (fun x hx => ho x (List.mem_cons_of_mem _ hx)) w
  | some y :: ns, B, ho, w => comB_dvd (ns := ns) (fun x hx => ho x (List.mem_cons_of_mem _ hx)) (by
      have h := Nat.lcm_dvd (Int.natAbs_dvd_natAbs.mpr w) (Int.natAbs_dvd_natAbs.mpr (ho y (List.mem_cons_self ..)))
      exact Int.natAbs_dvd_natAbs.mp (by rw [Int.natAbs_natCast]; exact h))
theorem comB_append : ∀ {as bs : List (Option Bn)} {B : Int}, comB (as ++ bs) B = comB bs (comB as B)
  | [], _, _ => rfl
  | none :: as, bs, B => comB_append (as := as)
  | some y :: as, bs, B => comB_append (as := as)
theorem bw_dvd {n : Nat} {a b : Int} (h : a ∣ b) (hb : b ≠ 0) (w : Bw n b) : Bw n a :=
  Nat.lt_of_le_of_lt (Nat.le_of_dvd (Int.natAbs_pos.mpr hb) (Int.natAbs_dvd_natAbs.mpr h)) w
theorem comB_app {ns : List (Option Bn)} {o : Option Bn} : ∀ {ms : List (Option Bn)} {B : Int}, ms = ns ++ [o] → comB ms B = (match o with | none => comB ns B | some x => ((((comB ns B).natAbs.lcm x.b.natAbs : Nat)) : Int)) := by
  induction ns with
  | nil =>
    intro ms B e
    subst e
    cases o <;> rfl
  | cons p ns ih =>
    intro ms B e
    subst e
    cases p with
    | none => exact ih (ms := ns ++ [o]) (B := B) rfl
    | some y => exact ih (ms := ns ++ [o]) (B := _) rfl
local macro_rules | `(tactic| walk_at "s") => `(tactic| first | with_reducible refine L2.My.w_forOLT ?_)
def evenP : List (Int × List (Int × Int)) := [(1, [(0, 1)]), (2, [(1, 1), (7, 1)]), (1, [(2, 1), (7, 1)]), (1, [(1, 1), (6, 1)])]
def oddP : List (Int × List (Int × Int)) := [(1, [(1, 1)]), (1, [(0, 1), (2, 1)]), (1, [(0, 2), (3, 1)]), (1, [(2, 2), (7, 1)])]
def barC : List (List (Int × Int)) := [[(0, 1), (4, 1)], [(1, 1), (5, 1)], [(2, 1), (6, 1)], [(3, 1), (7, 1)], [(0, 1), (3, 1), (6, 1)], [(1, 1), (4, 2), (7, 1)], [(0, 1), (2, 1), (5, 1)], [(1, 1), (3, 1), (6, 2)], [(2, 1), (4, 1), (7, 1)], [(0, 2), (3, 1), (5, 1)], [(1, 1), (4, 1), (6, 1)], [(2, 2), (5, 1), (7, 1)]]
def turnP (by' : Int) (p : Int × List (Int × Int)) : Int × List (Int × Int) := (p.1, p.2.map fun q => ((q.1 + by') % 8, q.2))
def pressD (d : Nat) : List (Int × List (Int × Int)) := (if d % 2 = 1 then oddP else evenP).map (turnP ((d : Int) - (d : Int) % 2))
def prD (p : Int × Int) : PyData := .tuple [.int p.1, .int p.2]
def ptD (l : List (Int × Int)) : PyData := .tuple (l.map prD)
def psD (p : Int × List (Int × Int)) : PyData := .tuple [.int p.1, ptD p.2]
/-- parts of a sum: directions and times -/
def PartsAt (K : PySem.W.Frag) (H : Hp) (v : V) (l : List (Int × Int)) : Prop := ∃ a xs, v = .ref a ∧ (H a = some (.lst xs) ∨ SqT K H a xs) ∧ xs.length = l.length ∧ ∀ (i : Nat) x p, xs[i]? = some x → l[i]? = some p → ∃ q, x = .ref q ∧ SqT K H q [.int (p : Int × Int).1, .int p.2]
theorem PartsAt.same {K : PySem.W.Frag} {H H' : Hp} {v : V} {l : List (Int × Int)} (h : PartsAt K H v l) (s : Same H H') : PartsAt K H' v l := by
  obtain ⟨a, xs, rfl, e, hl, k⟩ := h
  refine ⟨a, xs, rfl, e.imp (s _ _) (fun e => sqT_same e s), hl, fun i x p h1 h2 => ?_⟩
  obtain ⟨q, rfl, e⟩ := k i x p h1 h2
  exact ⟨q, rfl, sqT_same e s⟩
theorem kd_parts {K : PySem.W.Frag} {n : Nat} {v : V} {l : List (Int × Int)} (h : KD K (n + 3) v (ptD l)) (H : Hp) : PartsAt K H v l := by
  obtain ⟨a, xs, rfl, hs, hl, k⟩ := h.tup
  refine ⟨a, xs, rfl, .inr (hs H), by rw [hl, List.length_map], fun i x p h1 h2 => ?_⟩
  obtain ⟨y, hy, ky⟩ := k i (prD p) (by rw [List.getElem?_map, h2]; rfl)
  rw [hy] at h1
  cases h1
  obtain ⟨q, rfl, hq⟩ := ky.pair
  exact ⟨q, rfl, hq H⟩
def psum (ps : List (Option (Int × Int))) : List (Int × Int) → Int × Int → Option (Int × Int)
  | [], acc => some acc
  | p :: l, acc => match ps.getD p.1.toNat none with
    | none => none
    | some q => psum ps l (acc.1 + p.2 * q.1, acc.2 + p.2 * q.2)
def PrsOk (ps : List (Option (Int × Int))) : Prop := ps.length = 8 ∧ ∀ o ∈ ps, ∀ q, o = some q → Bw 980 q.1 ∧ Bw 980 q.2
def PtsOk (l : List (Int × Int)) : Prop := l.length ≤ 3 ∧ ∀ p ∈ l, 0 ≤ p.1 ∧ p.1 ≤ 7 ∧ 0 ≤ p.2 ∧ p.2 ≤ 2
theorem psum_bw {ps : List (Option (Int × Int))} (hp : PrsOk ps) : ∀ {l : List (Int × Int)} {acc r : Int × Int} {n : Nat}, (∀ p ∈ l, 0 ≤ p.1 ∧ p.1 ≤ 7 ∧ 0 ≤ p.2 ∧ p.2 ≤ 2) → 983 ≤ n → Bw n acc.1 → Bw n acc.2 → psum ps l acc = some r → Bw (n + l.length) r.1 ∧ Bw (n + l.length) r.2
  | [], acc, r, n, _, _, h1, h2, e => by
    cases e
    exact ⟨h1, h2⟩
  | p :: l, acc, r, n, ho, hn, h1, h2, e => by
    rw [psum] at e
    cases hq : ps.getD p.1.toNat none with
    | none => rw [hq] at e; cases e
    | some q =>
      rw [hq] at e
      have mq : some q ∈ ps := by
        rw [List.getD_eq_getElem?_getD] at hq
        cases hx : ps[p.1.toNat]? with
        | none => rw [hx] at hq; cases hq
        | some o => rw [hx] at hq; rw [← show o = some q from hq]; exact List.mem_of_getElem? hx
      obtain ⟨b1, b2⟩ := hp.2 _ mq q rfl
      obtain ⟨-, -, w0, w2⟩ := ho p (List.mem_cons_self ..)
      have wp : Bw 2 p.2 := by unfold Bw; omega
      have c1 : Bw (n + 1) (acc.1 + p.2 * q.1) := (h1.add ((wp.mul b1).mono (show 2 + 980 ≤ n by omega))).mono (show max n n + 1 ≤ n + 1 by omega)
      have c2 : Bw (n + 1) (acc.2 + p.2 * q.2) := (h2.add ((wp.mul b2).mono (show 2 + 980 ≤ n by omega))).mono (show max n n + 1 ≤ n + 1 by omega)
      obtain ⟨d1, d2⟩ := psum_bw hp (n := n + 1) (fun p hm => ho p (List.mem_cons_of_mem _ hm)) (by omega) c1 c2 e
      rw [List.length_cons, show n + (l.length + 1) = n + 1 + l.length by omega]
      exact ⟨d1, d2⟩
def PaK (K : PySem.W.Frag) (y : V) (l : List (Int × Int)) : Prop := ∃ a xs, y = .ref a ∧ (∀ H, SqT K H a xs) ∧ xs.length = l.length ∧ ∀ (i : Nat) p, l[i]? = some p → ∃ q, xs[i]? = some (.ref q) ∧ ∀ H, SqT K H q [.int (p : Int × Int).1, .int p.2]
theorem kd_paK {K : PySem.W.Frag} {n : Nat} {v : V} {l : List (Int × Int)} (h : KD K (n + 3) v (ptD l)) : PaK K v l := by
  obtain ⟨a, xs, rfl, hs, hl, k⟩ := h.tup
  refine ⟨a, xs, rfl, hs, by rw [hl, List.length_map], fun i p h2 => ?_⟩
  obtain ⟨y, hy, ky⟩ := k i (prD p) (by rw [List.getElem?_map, h2]; rfl)
  obtain ⟨q, rfl, hq⟩ := ky.pair
  exact ⟨q, hy, hq⟩
def PsK (K : PySem.W.Frag) (v : V) (l : List (Int × List (Int × Int))) : Prop := ∃ a xs, v = .ref a ∧ (∀ H, SqT K H a xs) ∧ xs.length = l.length ∧ ∀ (i : Nat) p, l[i]? = some p → ∃ q y, xs[i]? = some (.ref q) ∧ (∀ H, SqT K H q [.int (p : Int × List (Int × Int)).1, y]) ∧ PaK K y p.2
theorem kd_psK {K : PySem.W.Frag} {n : Nat} {v : V} {l : List (Int × List (Int × Int))} (h : KD K (n + 5) v (.tuple (l.map psD))) : PsK K v l := by
  obtain ⟨a, xs, rfl, hs, hl, k⟩ := h.tup
  refine ⟨a, xs, rfl, hs, by rw [hl, List.length_map], fun i p h2 => ?_⟩
  obtain ⟨y, hy, ky⟩ := k i (psD p) (by rw [List.getElem?_map, h2]; rfl)
  obtain ⟨q, zs, rfl, hq, hz, kz⟩ := KD.tup (ds := [.int p.1, ptD p.2]) ky
  obtain ⟨z0, h0, k0⟩ := kz 0 _ rfl
  obtain ⟨z1, h1, k1⟩ := kz 1 _ rfl
  match zs, hz with
  | [b, c], _ =>
    cases h0
    cases h1
    rw [KD.int k0] at hq
    exact ⟨q, _, hy, hq, kd_paK k1⟩
theorem sqT_kps {K : PySem.W.Frag} {H H' : Hp} {a : Addr} {xs : List V} (h : SqT K H a xs) (s : Kps H H') : SqT K H' a xs := by
  rcases h with h | h
  · refine .inl ?_
    rcases h with e | ⟨o, e⟩
    · exact .inl (s _ _ (by simp) e)
    · exact .inr ⟨o, s _ _ (by simp) e⟩
  · exact .inr h
theorem PartsAt.upd {K : PySem.W.Frag} {H : Hp} {v : V} {l : List (Int × Int)} {D : Addr} {zs zs' : List V} (h : PartsAt K H v l) (hn : v ≠ .ref D) (hD : H D = some (.lst zs)) : PartsAt K (L2.upd H D (.lst zs')) v l := by
  obtain ⟨a, xs, rfl, e, hl, k⟩ := h
  have kp : Kps H (L2.upd H D (.lst zs')) := Kps.sx hD (SameX.upd fun _ _ _ e => e)
  refine ⟨a, xs, rfl, e.imp (fun e => ?_) (fun e => sqT_kps e kp), hl, fun i x p h1 h2 => ?_⟩
  · rw [upd_ne (fun z => hn (by rw [z]))]
    exact e
  · obtain ⟨q, rfl, e⟩ := k i x p h1 h2
    exact ⟨q, rfl, sqT_kps e kp⟩
def basP (d : Nat) : List (Int × List (Int × Int)) := if d % 2 = 1 then oddP else evenP
theorem basP_few {d : Nat} : (basP d).length = 4 ∧ ∀ p ∈ basP d, p.2.length ≤ 2 := by
  unfold basP
  split <;> exact ⟨rfl, by decide⟩
def barT (ps : List (Option (Int × Int))) (l : List (Int × Int)) : Bool := match psum ps l (0, 0) with
  | none => false
  | some r => decide (sgn r.1 r.2 ≤ 0)
def barB (ps : List (Option (Int × Int))) : Bool := barC.any (barT ps)
def lstep (ps : List (Option (Int × Int))) (acc : Option (Int × Int)) (p : Int × List (Int × Int)) : Option (Int × Int) := match psum ps p.2 (0, 0) with
  | none => acc
  | some r => match acc with
    | none => some (r.1 * (2 / p.1), r.2 * (2 / p.1))
    | some a => if sgn (r.1 * (2 / p.1) - a.1) (r.2 * (2 / p.1) - a.2) < 0 then some (r.1 * (2 / p.1), r.2 * (2 / p.1)) else some a
def lprO (ps : List (Option (Int × Int))) (d : Nat) : Option (Int × Int) := (pressD d).foldl (lstep ps) none
def WO (n : Nat) (o : Option (Int × Int)) : Prop := ∀ r, o = some r → Bw n r.1 ∧ Bw n r.2
theorem barC_ok : ∀ l ∈ barC, PtsOk l := by
  unfold PtsOk
  decide
theorem pressD_ok {d : Nat} (h : d < 8) : (pressD d).length = 4 ∧ ∀ p ∈ pressD d, (p.1 = 1 ∨ p.1 = 2) ∧ PtsOk p.2 := by
  refine d8_cases h (P := fun d => (pressD d).length = 4 ∧ ∀ p ∈ pressD d, (p.1 = 1 ∨ p.1 = 2) ∧ PtsOk p.2) ?_ ?_ ?_ ?_ ?_ ?_ ?_ ?_ <;> (unfold PtsOk; decide)
theorem psum_ok {ps : List (Option (Int × Int))} {l : List (Int × Int)} {r : Int × Int} (hp : PrsOk ps) (hl : PtsOk l) (e : psum ps l (0, 0) = some r) : Bw 990 r.1 ∧ Bw 990 r.2 := by
  obtain ⟨a, b⟩ := psum_bw hp (n := 983) hl.2 (by decide) (Bw.zero.mono (by decide)) (Bw.zero.mono (by decide)) e
  have := hl.1
  exact ⟨a.mono (by omega), b.mono (by omega)⟩
theorem fac_bw {w r : Int} (hw : w = 1 ∨ w = 2) (h : Bw 990 r) : Bw 992 (r * (2 / w)) := by
  have : Bw 2 (2 / w) := by rcases hw with rfl | rfl <;> (unfold Bw; decide)
  exact (h.mul this).mono (by decide)
theorem lstep_bw {ps : List (Option (Int × Int))} {acc : Option (Int × Int)} {p : Int × List (Int × Int)} (hp : PrsOk ps) (hw : p.1 = 1 ∨ p.1 = 2) (hl : PtsOk p.2) (ha : WO 992 acc) : WO 992 (lstep ps acc p) := by
  unfold lstep
  split
  · exact ha
  · rename_i r e
    obtain ⟨b1, b2⟩ := psum_ok hp hl e
    have c : WO 992 (some (r.1 * (2 / p.1), r.2 * (2 / p.1))) := fun q hq => by
      cases hq
      exact ⟨fac_bw hw b1, fac_bw hw b2⟩
    split
    · exact c
    · split
      · exact c
      · exact ha
/-- the tightened bounds: none if barred, else eight numbers or nones -/
def tigO (ns : List (Option Bn)) : List (Option (Int × Int)) := (List.range 8).map (lprO (ns.map (prO (comB ns 1))))
def TgAt (c : Addr) (H : Hp) (z : V) (B : Int) : Option (Int × Int) → Prop
  | none => z = .non
  | some p => LowAt c H z p.1 p.2 (2 * B)
def TgsAt (c : Addr) (H : Hp) (zs : List V) (B : Int) (os : List (Option (Int × Int))) : Prop := zs.length = os.length ∧ ∀ (i : Nat) z o, zs[i]? = some z → os[i]? = some o → TgAt c H z B o
theorem TgAt.kps {c : Addr} {H H' : Hp} {z : V} {B : Int} {o : Option (Int × Int)} (h : TgAt c H z B o) (s : Kps H H') : TgAt c H' z B o := by
  cases o with
  | none => exact h
  | some x =>
    obtain ⟨a, dx, rfl, e⟩ := h
    exact ⟨a, dx, rfl, s _ _ (by intro xs z; cases z) e⟩
theorem TgsAt.kps {c : Addr} {H H' : Hp} {zs : List V} {B : Int} {ns : List (Option (Int × Int))} (h : TgsAt c H zs B ns) (s : Kps H H') : TgsAt c H' zs B ns := ⟨h.1, fun i z o h1 h2 => (h.2 i z o h1 h2).kps s⟩
theorem TgsAt.add {c : Addr} {H : Hp} {zs : List V} {B : Int} {ns : List (Option (Int × Int))} {z : V} {o : Option (Int × Int)} (h : TgsAt c H zs B ns) (k : TgAt c H z B o) : TgsAt c H (zs ++ [z]) B (ns ++ [o]) := by
  refine ⟨by simp [h.1], fun i y p h1 h2 => ?_⟩
  rcases Nat.lt_trichotomy i zs.length with l | l | l
  · rw [List.getElem?_append_left l] at h1
    rw [List.getElem?_append_left (by rw [← h.1]; exact l)] at h2
    exact h.2 i y p h1 h2
  · rw [List.getElem?_append_right (by omega), l, Nat.sub_self] at h1
    rw [List.getElem?_append_right (by rw [← h.1]; omega), ← h.1, l, Nat.sub_self] at h2
    cases h1
    cases h2
    exact k
  · rw [List.getElem?_eq_none (by simp; omega)] at h1
    cases h1
/-- small bounds -/
def Bn.ok60 (x : Bn) : Prop := x.d < 8 ∧ 0 < x.b ∧ Bw 300 x.t ∧ Bw 300 x.r ∧ Bw 60 x.b
theorem Bn.ok60.ok {x : Bn} (h : Bn.ok60 x) : Bn.ok x := ⟨h.1, h.2.1, h.2.2.1.mono (by decide), h.2.2.2.1.mono (by decide), h.2.2.2.2.mono (by decide)⟩
/-- the pairs of bounds are not too great -/
theorem prs_of {n k : Nat} {ns : List (Option Bn)} (l8 : ns.length = 8) (ok : ∀ o ∈ ns, Bn.okO o) (hB : Bw k (comB ns 1)) (hn : ∀ x, some x ∈ ns → Bw n x.t ∧ Bw n x.r) (hk : n + k ≤ 980) : PrsOk (ns.map (prO (comB ns 1))) := by
  refine ⟨by rw [List.length_map, l8], fun o ho q e => ?_⟩
  obtain ⟨m, hm, rfl⟩ := List.mem_map.mp ho
  cases m with
  | none => cases e
  | some y =>
    cases e
    have oy := ok _ hm y rfl
    obtain ⟨w1, w2⟩ := hn y hm
    obtain ⟨-, -, B4⟩ := comB_ok ok (B := 1) (by decide)
    have wby : Bw k (comB ns 1 / y.b) := bw_div (s := y.b) hB (by
      obtain ⟨k, hk⟩ := B4 y hm
      rw [hk, Int.mul_ediv_cancel_left _ (by have := oy.2.1; omega), Int.mul_comm]) (by have := oy.2.1; omega)
    exact ⟨(w1.mul wby).mono hk, (w2.mul wby).mono hk⟩
theorem lprO_bw {ps : List (Option (Int × Int))} {d : Nat} (hp : PrsOk ps) (hd : d < 8) : WO 992 (lprO ps d) := by
  have go : ∀ (l : List (Int × List (Int × Int))) (acc : Option (Int × Int)), (∀ p ∈ l, (p.1 = 1 ∨ p.1 = 2) ∧ PtsOk p.2) → WO 992 acc → WO 992 (l.foldl (lstep ps) acc) := by
    intro l
    induction l with
    | nil => exact fun acc _ h => h
    | cons p l ih => exact fun acc ho h => ih _ (fun p hm => ho p (List.mem_cons_of_mem _ hm)) (lstep_bw hp (ho p (List.mem_cons_self ..)).1 (ho p (List.mem_cons_self ..)).2 h)
  exact go _ _ (pressD_ok hd).2 (fun r e => by cases e)
local macro_rules | `(tactic| walk_at "s") => `(tactic| first | with_reducible refine L2.My.w_lcEnT ?_)
def barP (bs : List Bn) : Bool := barB ((leastN bs).map (prO (comB (leastN bs) 1)))
/-- bounds that can be tightened without great numbers -/
def BsOk (bs : List Bn) : Prop := (∀ x ∈ bs, Bn.ok x) ∧ Bw 530 (comB (leastN bs) 1) ∧ PrsOk ((leastN bs).map (prO (comB (leastN bs) 1)))
theorem leastN_ok {bs : List Bn} (ok : ∀ x ∈ bs, Bn.ok x) : (leastN bs).length = 8 ∧ ∀ o ∈ leastN bs, Bn.okO o := by
  refine ⟨by unfold leastN; rw [List.length_map]; exact leastI_len, fun o ho x e => ?_⟩
  unfold leastN at ho
  obtain ⟨k, hk, rfl⟩ := List.mem_map.mp ho
  cases k with
  | none => cases e
  | some j => exact ok x (List.mem_of_getElem? (show bs[j]? = some x from e))
def lowBn (d : Nat) (t r b : Int) : Bn := ⟨d, lowT t r b, lowR t r b, lowB t r b⟩
def rowsP (bs : List Bn) : List Bn := if barP bs = true then [⟨0, 0, 0, 1⟩, ⟨4, 0, 0, 1⟩] else (List.range 8).filterMap fun d => (lprO ((leastN bs).map (prO (comB (leastN bs) 1))) d).map fun p => lowBn d p.1 p.2 (2 * comB (leastN bs) 1)
def letB (t r b t' r' b' : Int) (x : Bn) : Bool := decide (sgn (minus.t (lowT (twT x.d t b t' b') (twT x.d r b r' b') (b * b')) (lowR (twT x.d t b t' b') (twT x.d r b r' b') (b * b')) (lowB (twT x.d t b t' b') (twT x.d r b r' b') (b * b')) x.t x.r x.b) (minus.r (lowT (twT x.d t b t' b') (twT x.d r b r' b') (b * b')) (lowR (twT x.d t b t' b') (twT x.d r b r' b') (b * b')) (lowB (twT x.d t b t' b') (twT x.d r b r' b') (b * b')) x.t x.r x.b) < 0)
theorem BnAt.kps {c : Addr} {H H' : Hp} {v : V} {x : Bn} (h : BnAt c H v x) (s : Kps H H') : BnAt c H' v x := by
  obtain ⟨p, y, rfl, e, n, m⟩ := h
  refine ⟨p, y, rfl, s.tup e, ?_, m⟩
  rcases n with ⟨a, dx, rfl, e'⟩ | n
  · exact .inl ⟨a, dx, rfl, s _ _ (by intro xs z; cases z) e'⟩
  · exact .inr n
theorem BnsAt.kps {c : Addr} {H H' : Hp} {vs : List V} {xs : List Bn} (h : BnsAt c H vs xs) (s : Kps H H') : BnsAt c H' vs xs := ⟨h.1, fun i v x h1 h2 => (h.2 i v x h1 h2).kps s⟩
theorem BnsAt.add {c : Addr} {H : Hp} {zs : List V} {ns : List Bn} {z : V} {o : Bn} (h : BnsAt c H zs ns) (k : BnAt c H z o) : BnsAt c H (zs ++ [z]) (ns ++ [o]) := by
  refine ⟨by simp [h.1], fun i y p h1 h2 => ?_⟩
  rcases Nat.lt_trichotomy i zs.length with l | l | l
  · rw [List.getElem?_append_left l] at h1
    rw [List.getElem?_append_left (by rw [← h.1]; exact l)] at h2
    exact h.2 i y p h1 h2
  · rw [List.getElem?_append_right (by omega), l, Nat.sub_self] at h1
    rw [List.getElem?_append_right (by rw [← h.1]; omega), ← h.1, l, Nat.sub_self] at h2
    cases h1
    cases h2
    exact k
  · rw [List.getElem?_eq_none (by simp; omega)] at h1
    cases h1
def rowsF (bs : List Bn) (d : Nat) : Option Bn := (lprO ((leastN bs).map (prO (comB (leastN bs) 1))) d).map fun p => lowBn d p.1 p.2 (2 * comB (leastN bs) 1)
def rowsI (bs : List Bn) (n : Nat) : List Bn := (List.range n).filterMap (rowsF bs)
theorem rowsI_succ {bs : List Bn} {n : Nat} : rowsI bs (n + 1) = rowsI bs n ++ (rowsF bs n).toList := by
  unfold rowsI
  rw [List.range_succ, List.filterMap_append]
  congr 1
theorem rowsI_len {bs : List Bn} {n : Nat} : (rowsI bs n).length ≤ n := by
  unfold rowsI
  exact Nat.le_trans (List.length_filterMap_le ..) (by rw [List.length_range]; exact Nat.le_refl _)
/-- all that can be said of the common bottom -/
theorem comB_leastN {bs : List Bn} (ok : BsOk bs) : 0 < comB (leastN bs) 1 ∧ Bw 530 (comB (leastN bs) 1) := by
  obtain ⟨n8, okO⟩ := leastN_ok ok.1
  exact ⟨(comB_ok okO (B := 1) (by decide)).1, ok.2.1⟩
theorem sm_tight {bs : List Bn} (ok : BsOk bs) {d : Nat} (hd : d < 8) {p : Int × Int} (e : lprO ((leastN bs).map (prO (comB (leastN bs) 1))) d = some p) : Sm (lowT p.1 p.2 (2 * comB (leastN bs) 1)) (lowR p.1 p.2 (2 * comB (leastN bs) 1)) (lowB p.1 p.2 (2 * comB (leastN bs) 1)) := by
  obtain ⟨B1, B2⟩ := comB_leastN ok
  obtain ⟨w1, w2⟩ := lprO_bw ok.2.2 hd p e
  exact Sm.low (by omega) (w1.mono (by decide)) (w2.mono (by decide)) (((show Bw 2 2 by unfold Bw; decide).mul B2).mono (by decide))
theorem bsOk60 {bs : List Bn} (ok : ∀ x ∈ bs, Bn.ok60 x) : BsOk bs := by
  have ok' : ∀ x ∈ bs, Bn.ok x := fun x hx => (ok x hx).ok
  obtain ⟨n8, okO⟩ := leastN_ok ok'
  have mem : ∀ x, some x ∈ leastN bs → x ∈ bs := fun x hx => by
    unfold leastN at hx
    obtain ⟨k, hk, e⟩ := List.mem_map.mp hx
    cases k with
    | none => cases e
    | some j => exact List.mem_of_getElem? (show bs[j]? = some x from e)
  have B2 := comB_bw (k := 60) (ns := leastN bs) (B := 1) (n := 1) (fun x hx => (ok x (mem x hx)).2.2.2.2) Bw.one
  rw [n8] at B2
  exact ⟨ok', B2.mono (by decide), prs_of n8 okO B2 (fun x hx => ⟨(ok x (mem x hx)).2.2.1, (ok x (mem x hx)).2.2.2.1⟩) (by decide)⟩
theorem rowsI_d {bs : List Bn} {n : Nat} : ∀ x ∈ rowsI bs n, x.d < n := by
  intro x hx
  unfold rowsI at hx
  obtain ⟨d, hd, e⟩ := List.mem_filterMap.mp hx
  unfold rowsF at e
  obtain ⟨p, -, rfl⟩ := Option.map_eq_some_iff.mp e
  exact List.mem_range.mp hd
theorem rowsP_eq {bs : List Bn} (h : barP bs = false) : rowsP bs = rowsI bs 8 := if_neg (by rw [h]; simp)
theorem rowsP_d {bs : List Bn} : ∀ x ∈ rowsP bs, x.d < 8 := by
  cases h : barP bs with
  | true =>
    rw [show rowsP bs = [⟨0, 0, 0, 1⟩, ⟨4, 0, 0, 1⟩] from if_pos h]
    decide
  | false =>
    rw [rowsP_eq h]
    exact rowsI_d
theorem rowsP_len {bs : List Bn} : (rowsP bs).length ≤ 8 := by
  cases h : barP bs with
  | true =>
    rw [show rowsP bs = [⟨0, 0, 0, 1⟩, ⟨4, 0, 0, 1⟩] from if_pos h]
    decide
  | false =>
    rw [rowsP_eq h]
    exact rowsI_len
theorem pc_none {m : Str} {u : V} (h : (m == ("bounds" : Str)) = false) : ([(("bounds" : Str), u)] : List (Str × V)).lookup m = none := by simp [List.lookup, h]
theorem tw_bw {d : Nat} {t b t' b' : Int} (hd : d < 8) (h1 : Bw 400 t) (h2 : Bw 400 b) (h3 : Bw 400 t') (h4 : Bw 400 b') : Bw 803 (twT d t b t' b') := by
  obtain ⟨v1, v2⟩ := v_bw hd
  exact (((v1.mul h1).mul h4).add ((v2.mul h3).mul h2)).mono (by decide)
theorem BnsAt.app {c : Addr} {H : Hp} {zs ys : List V} {ns ms : List Bn} (h : BnsAt c H zs ns) (k : BnsAt c H ys ms) : BnsAt c H (zs ++ ys) (ns ++ ms) := by
  refine ⟨by simp [h.1, k.1], fun i y p h1 h2 => ?_⟩
  rcases Nat.lt_or_ge i zs.length with l | l
  · rw [List.getElem?_append_left l] at h1
    rw [List.getElem?_append_left (by rw [← h.1]; exact l)] at h2
    exact h.2 i y p h1 h2
  · rw [List.getElem?_append_right l] at h1
    rw [List.getElem?_append_right (by rw [← h.1]; exact l), ← h.1] at h2
    exact k.2 _ y p h1 h2
theorem BndOk.same {H H' : Hp} {v : V} {bs : List Bn} (h : BndOk Z H v bs) (s : Same H H') : BndOk Z H' v bs := by
  obtain ⟨a, vs, rfl, lt, l, b, o⟩ := h
  exact ⟨a, vs, rfl, lt.same s, l, b.same s, o⟩
/-- the state of the draws: cells, at, pend, mix -/
def St4 (H : Hp) (p q : Addr) : Prop := ∃ (ns : List Int) (at_ pend mix : Int), H p = some (.lst [.ref q, .int at_, .int pend, .int mix]) ∧ H q = some (.lst (ns.map V.int)) ∧ q ≠ p ∧ 0 ≤ at_ ∧ 0 ≤ pend
theorem St4.same {H H' : Hp} {p q : Addr} (h : St4 H p q) (s : Same H H') : St4 H' p q := by
  obtain ⟨ns, at_, pend, mix, h1, h2, h3⟩ := h
  exact ⟨ns, at_, pend, mix, s _ _ h1, s _ _ h2, h3⟩
theorem St4.ne {H : Hp} {p q b : Addr} {o : HO} (h : St4 H p q) (e : H b = some o) (n : ∀ xs, o ≠ .lst xs) : b ≠ p := by
  obtain ⟨ns, at_, pend, mix, h1, h2, _⟩ := h
  intro z
  rw [z, h1] at e
  cases e
  exact n _ rfl
theorem St4.kps {H H' : Hp} {p q : Addr} (h : St4 H p q) (s : SameX p H H') : Kps H H' := fun b o n e => s b o (h.ne e n) e
theorem St4.new {H : Hp} {p q b : Addr} (h : St4 H p q) (e : H b = none) : b ≠ p ∧ b ≠ q := by
  obtain ⟨ns, at_, pend, mix, h1, h2, _⟩ := h
  exact ⟨fun z => (by rw [z, h1] at e; cases e), fun z => (by rw [z, h2] at e; cases e)⟩
theorem St4.other {H : Hp} {p q b : Addr} {o : HO} (h : St4 H p q) (n : b ≠ p ∧ b ≠ q) : St4 (upd H b o) p q := by
  obtain ⟨ns, at_, pend, mix, h1, h2, h3⟩ := h
  exact ⟨ns, at_, pend, mix, by rw [upd_ne (Ne.symm n.1)]; exact h1, by rw [upd_ne (Ne.symm n.2)]; exact h2, h3⟩
theorem cut_len {xs : List V} {k : Nat} : (cutV xs none (some (k : Int))).length ≤ k := by
  unfold cutV
  rw [HT.sIx_none, HT.sIx_nat, List.length_take]
  omega
theorem cut_ints' (ns : List Int) {k : Nat} : ∃ ms : List Int, cutV (ns.map V.int) none (some (k : Int)) = ms.map V.int ∧ ms.length ≤ k := by
  obtain ⟨ms, e⟩ := cut_ints ns none (some (k : Int))
  refine ⟨ms, e, ?_⟩
  have := cut_len (xs := ns.map V.int) (k := k)
  rw [e, List.length_map] at this
  exact this
theorem w_neL {K : PySem.W.Frag} {H : Hp} {Q : VK} {a b : Addr} {ns : List Int} (h1 : H a = some (.lst (ns.map V.int))) (h2 : H b = some (.lst [])) (q : Q (.bl (!decide (ns = []))) H) : rNeD K (.ref a) (.ref b) H Q :=
  ⟨.list (ns.map .int), .list ([].map .int), .lst (SqL.of h1) (dp_ints ns), .lst (SqL.of (xs := []) h2) (dp_ints []), shaped_intsL _, shaped_intsL _, by rw [PyData.eqv, eqv_ints]; exact q⟩
abbrev s__law_begin : Stmt := top 23
theorem sc__law_begin : FnScope ["script", "cell"] ["script"] (defScope s__law_begin) := ⟨rfl, rfl, rfl, by decide +kernel, rfl, by decide +kernel, by decide +kernel⟩

def sp__law_begin (Z : Zs) : Sp := fun vs H Q E =>
  ∃ (a : Addr) (ns : List Int), vs = [.ref a] ∧ SqL Z.K H a (ns.map V.int) ∧ ∀ p c H', H p = none → Same H H' → St4 H' p c → Q (.ref p) H'
theorem ok__law_begin (T : Txt Z mg)  (D : AtF Z.K mg "_law_begin" "_law_begin" s__law_begin ["script"]) : Has P w Z.K mg base "_law_begin" 1 ["script"] (sp__law_begin Z) := by
  refine D.ok sc__law_begin (fun vs H Q E h => ?_) (fun cdv A outer s H vs Q E hr h => ?_)
  · obtain ⟨a, ns, rfl, _⟩ := h
    rfl
  · refine ⟨_, (pss_one (ps_ret (pe_lst (pa_cons (pe_lc (own := [("cell", 1)]) (g := gName 1) rfl sc__law_begin.nd (pi_list (pe_slice sl_list (pv 0) po_none (po_some pe_int))) (blkOk_by (N := ["script", "cell"]) (sc := (defScope s__law_begin)) (by decide +kernel)) (fun _ _ _ _ _ => pg_name (i := 1) sc__law_begin.nd rfl (Or.inl rfl)) (fun _ _ _ _ _ => pts_nil) (fun _ _ _ _ _ => (pe_callTy cn_int rfl T.n_int (by decide +kernel) (pa_cons (pv 1) pa_nil)))) (pa_cons pe_int (pa_cons pe_int (pa_cons pe_int pa_nil))))))), ?_⟩
    try simp only [cxOf]
    obtain ⟨a, ns, rfl, hs, q⟩ := h
    walk_at "W"
    refine k_slL hs fun l H1 hl s1 e1 => ?_
    obtain ⟨ms, em, ml⟩ := cut_ints' ns (k := 63)
    rw [show (some (63 : Int)) = some ((63 : Nat) : Int) from rfl, em] at e1
    refine k_lcInts (f := fun z => z) (ns := ms) (SqL.of e1) (by omega) (fun _ => rfl) (fun H' s => SqL.of (s _ _ e1)) ?_ ?_
    · intro z H' hz s N hN
      walk_at "W"
      exact hN
    · intro D H2 hD s2 e2
      walk_at "W"
      refine k_lst rfl fun p H3 hp s3 e3 => ?_
      rw [List.map_id'] at e2
      exact q p D H3 ((s1.trans s2).free hp) (s1.trans (s2.trans s3)) ⟨ms, 0, 0, 7, e3, s3 _ _ e2, fun z => (by rw [z] at e2; rw [hp] at e2; cases e2), by decide, by decide⟩
abbrev s__law_draw : Stmt := top 24
theorem sc__law_draw : FnScope ["draws", "many", "digit", "cells", "at", "cell", "number"] ["draws", "many"] (defScope s__law_draw) := ⟨rfl, rfl, rfl, by decide +kernel, rfl, by decide +kernel, by decide +kernel⟩

def sp__law_draw (Z : Zs) : Sp := fun vs H Q E =>
  ∃ p c many, vs = [.ref p, .int many] ∧ St4 H p c ∧ 0 < many ∧ Bw 70 many ∧ ∀ n H', 0 ≤ n → n < many → SameX p H H' → St4 H' p c → Q (.int n) H'
theorem ok__law_draw (T : Txt Z mg)  (D : AtF Z.K mg "_law_draw" "_law_draw" s__law_draw ["draws", "many"]) : Has P w Z.K mg base "_law_draw" 1 ["draws", "many"] (sp__law_draw Z) := by
  refine D.ok sc__law_draw (fun vs H Q E h => ?_) (fun cdv A outer s H vs Q E hr h => ?_)
  · obtain ⟨p, c, many, rfl, _⟩ := h
    rfl
  · refine ⟨_, (pss_cons (ps_if (pt_cmpR op_gt (pe_ix ix_seq (pv 0) pe_int (fun _ _ => rfl)) pe_int (nomark _)) (pss_cons (ps_set (i := 2) sc__law_draw.nd rfl (Or.inl rfl) (pe_op op_mod (pe_ix ix_seq (pv 0) pe_int (fun _ _ => rfl)) (pv 1)))
      (pss_cons (ps_asg (pe_op op_fdivW (pe_ix ix_seq (pv 0) pe_int (fun _ _ => rfl)) (pv 1)) (pg_sub (pv 0) pe_int set_list))
      (pss_one (ps_ret (pv 2))))) pss_nil)
      (pss_cons (ps_set (i := 3) sc__law_draw.nd rfl (Or.inl rfl) (pe_ix ix_seq (pv 0) pe_int (fun _ _ => rfl)))
      (pss_cons (ps_set (i := 4) sc__law_draw.nd rfl (Or.inl rfl) (pe_ix ix_seq (pv 0) pe_int (fun _ _ => rfl)))
      (pss_cons (ps_asg (pe_op op_add (pv 4) pe_int) (pg_sub (pv 0) pe_int set_list))
      (pss_cons (ps_set (i := 5) sc__law_draw.nd rfl (Or.inl rfl) pe_int)
      (C8.pss_cut (ps_if (pt_cmpR (op_neD hr.units) (pv 3) (pe_lst pa_nil) (nomark _)) (pss_one (ps_set (i := 5) sc__law_draw.nd rfl (Or.inl rfl) (pe_ix ix_seq (pv 3) (pe_op op_mod (pv 4) (pe_callB cn_len rfl T.n_len (by decide +kernel) (pa_cons (pv 3) pa_nil))) (fun _ _ => rfl)))) pss_nil)
      (pss_cons (ps_asg (pe_op op_mod (pe_op op_add (pe_op op_add (pe_op op_add (pe_op op_mulS (pe_ix ix_seq (pv 0) pe_int (fun _ _ => rfl)) pe_int) (pv 5)) (pe_op op_mulS pe_int (pv 4))) pe_int) pe_int) (pg_sub (pv 0) pe_int set_list))
      (C8.pss_cut (ps_if (PW.pt (pw_and (pt_cmpR op_lt (pv 4) (pe_callB cn_len rfl T.n_len (by decide +kernel) (pa_cons (pv 3) pa_nil)) (nomark _)) (pw_and1 (pt_cmpR op_ge (pv 5) (pe_op op_pow pe_int pe_int) (nomark _))))) (pss_cons (ps_asg (pe_op op_fdivW (pv 5) (pv 1)) (pg_sub (pv 0) pe_int set_list))
      (pss_one (ps_ret (pe_op op_mod (pv 5) (pv 1))))) pss_nil)
      (pss_cons (ps_set (i := 6) sc__law_draw.nd rfl (Or.inl rfl) (pe_op op_mod (pe_op op_add (pe_op op_add (pe_op op_mulS (pv 5) pe_int) (pe_op op_mulS (pe_ix ix_seq (pv 0) pe_int (fun _ _ => rfl)) pe_int)) pe_int) pe_int))
      (pss_cons (ps_set (i := 6) sc__law_draw.nd rfl (Or.inl rfl) (pe_op op_mod (pe_op op_mulS (pv 6) (pe_op op_add (pe_op op_fdivW (pv 6) pe_int) pe_int)) pe_int))
      (pss_cons (ps_set (i := 6) sc__law_draw.nd rfl (Or.inl rfl) (pe_op op_mod (pe_op op_mulS (pv 6) (pe_op op_add (pe_op op_fdivW (pv 6) pe_int) pe_int)) pe_int))
      (pss_one (ps_ret (pe_op op_mod (pe_op op_fdivW (pv 6) pe_int) (pv 1))))))))))))))), ?_⟩
    try simp only [cxOf]
    obtain ⟨p, c, many, rfl, ⟨ns, at_, pend, mix, hp, hc, cp, h0, h1⟩, hm, hmb, q⟩ := h
    have hdw : ∀ x : Int, CDivW x many := fun x => wide_div hm (hmb.bd (by decide)) (by decide) (by decide)
    walk_at "W"
    refine w_ite (fun hg => ?_) (fun hg => ?_)
    · walk_at "W"
      refine w_I (hdw _) ?_
      walk_at "W"
      refine w_setL hp rfl fun H1 s1 e1 => ?_
      walk_at "W"
      exact q _ _ (Int.emod_nonneg _ (by omega)) (Int.emod_lt_of_pos _ hm) s1 ⟨ns, at_, pend / many, mix, e1, s1 _ _ cp hc, cp, h0, Int.ediv_nonneg h1 (by omega)⟩
    walk_at "W"
    refine w_setL hp rfl fun H1 s1 e1 => ?_
    have hc1 : H1 c = some (.lst (ns.map V.int)) := s1 _ _ cp hc
    walk_at "W"
    refine w_cut (fun σ' H' => Same H1 H' ∧ ∃ z : Int, σ' = [some (.ref p), some (.int many), none, some (.ref c), some (.int at_), some (.int z), none]) ?_ ?_
    · walk_at "W"
      refine k_lst rfl fun l H2 hl s2 e2 => ?_
      refine w_neL (s2 _ _ hc1) e2 ?_
      walk_at "W"
      by_cases hn : ns = []
      case' neg => rw [decide_eq_false hn]
      case' pos => rw [decide_eq_true hn]
      rotate_left
      · walk_at "W"
        refine w_lenL (SqL.of (s2 _ _ hc1)) ?_
        walk_at "W"
        have hl' : 0 < (ns.length : Int) := by
          cases ns with
          | nil => exact absurd rfl hn
          | cons a l => simp
        have hl2 : (0 : Int) < (((ns.map V.int).length : Nat) : Int) := by simpa using hl'
        obtain ⟨z, hz⟩ := atI_ints (ns := ns) (k := at_ % ((ns.map V.int).length : Int)) (Int.emod_nonneg _ (by rw [List.length_map]; omega)) (by have := Int.emod_lt_of_pos at_ (b := ((ns.map V.int).length : Int)) (by simpa using hl'); simpa using this)
        refine w_I hl2 ?_
        walk_at "W"
        refine w_ixL (s2 _ _ hc1) hz ?_
        walk_at "W"
        exact ⟨s2, z, rfl⟩
      · walk_at "W"
        exact ⟨s2, 0, rfl⟩
    rintro σ1 H2 ⟨s2, z, rfl⟩
    have hc2 := s2 _ _ hc1
    have e2 := s2 _ _ e1
    walk_at "W"
    refine w_setL e2 rfl fun H3 s3 e3 => ?_
    have hc3 : H3 c = some (.lst (ns.map V.int)) := s3 _ _ cp hc2
    have x3 : SameX p H H3 := s1.trans ((Same.x s2).trans s3)
    refine w_cutE (σ' := [some (.ref p), some (.int many), none, some (.ref c), some (.int at_), some (.int z), none]) (H' := H3) ?_ ?_
    · walk_at "W"
      refine w_lenL (SqL.of hc3) ?_
      walk_at "W"
      refine w_ite (fun hl => ?_) (fun hl => ?_)
      · walk_at "W"
        refine w_ite (fun hz => ?_) (fun hz => ?_)
        · have hz0 : 0 ≤ z := by
            have : (0 : Int) ≤ 10 ^ (18 : Int).toNat := by decide
            omega
          walk_at "W"
          refine w_I (hdw _) ?_
          walk_at "W"
          refine w_setL e3 rfl fun H4 s4 e4 => ?_
          walk_at "W"
          exact q _ _ (Int.emod_nonneg _ (by omega)) (Int.emod_lt_of_pos _ hm) (x3.trans s4) ⟨ns, at_ + 1, _, _, e4, s4 _ _ cp hc3, cp, by omega, Int.ediv_nonneg hz0 (by omega)⟩
        · walk_at "W"
          exact ⟨rfl, rfl⟩
      · walk_at "W"
        exact ⟨rfl, rfl⟩
    walk_at "W"
    exact q _ _ (Int.emod_nonneg _ (by omega)) (Int.emod_lt_of_pos _ hm) x3 ⟨ns, at_ + 1, pend, _, e3, hc3, cp, by omega, h1⟩
/-! numbers, rows and points as the law draws them -/
structure Nu where
  t : Int
  r : Int
  b : Int
def N3At (H : Hp) (v : V) (n : Nu) : Prop := ∃ p, v = .ref p ∧ H p = some (.tup [.int n.t, .int n.r, .int n.b])
theorem N3At.kps {H H' : Hp} {v : V} {n : Nu} (h : N3At H v n) (s : Kps H H') : N3At H' v n := by
  obtain ⟨p, rfl, e⟩ := h
  exact ⟨p, rfl, s.tup e⟩
theorem N3At.same {H H' : Hp} {v : V} {n : Nu} (h : N3At H v n) (s : Same H H') : N3At H' v n := h.kps (Kps.same s)
def Nu.ok (m k : Nat) (n : Nu) : Prop := 0 < n.b ∧ Bw m n.t ∧ Bw m n.r ∧ Bw k n.b
theorem Nu.ok.mono {m k m' k' : Nat} {n : Nu} (h : Nu.ok m k n) (h1 : m ≤ m') (h2 : k ≤ k') : Nu.ok m' k' n := ⟨h.1, h.2.1.mono h1, h.2.2.1.mono h1, h.2.2.2.mono h2⟩
def plN (x y : Nu) : Nu := if x.b = y.b then ⟨x.t + y.t, x.r + y.r, x.b⟩ else ⟨x.t * y.b + y.t * x.b, x.r * y.b + y.r * x.b, x.b * y.b⟩
def scN (k : Int) (x : Nu) : Nu := ⟨k * x.t, k * x.r, x.b⟩
def alN (d : Nat) (x y : Nu) : Nu := plN (scN (vx d) x) (scN (vy d) y)
def cmN (x y : Nu) : Int := sg2 (plN x (scN (-1) y)).t (plN x (scN (-1) y)).r
theorem scN_ok {m k : Nat} {c : Int} {x : Nu} (h : Nu.ok m k x) (hc : Bw 1 c) : Nu.ok (m + 1) k (scN c x) := ⟨h.1, (hc.mul h.2.1).mono (by omega), (hc.mul h.2.2.1).mono (by omega), h.2.2.2⟩
theorem plN_ok {m k m' k' : Nat} {x y : Nu} (h : Nu.ok m k x) (h' : Nu.ok m' k' y) : Nu.ok (max (m + k') (m' + k) + 1) (k + k') (plN x y) := by
  unfold plN
  split
  · exact ⟨h.1, (h.2.1.add h'.2.1).mono (by omega), (h.2.2.1.add h'.2.2.1).mono (by omega), h.2.2.2.mono (by omega)⟩
  · exact ⟨Int.mul_pos h.1 h'.1, ((h.2.1.mul h'.2.2.2).add (h'.2.1.mul h.2.2.2)).mono (by omega), ((h.2.2.1.mul h'.2.2.2).add (h'.2.2.1.mul h.2.2.2)).mono (by omega), h.2.2.2.mul h'.2.2.2⟩
/-- many things, one by one -/
def LsAt {α : Type} (R : Hp → V → α → Prop) (H : Hp) (vs : List V) (xs : List α) : Prop := vs.length = xs.length ∧ ∀ (i : Nat) v x, vs[i]? = some v → xs[i]? = some x → R H v x
theorem LsAt.imp {α : Type} {R : Hp → V → α → Prop} {H H' : Hp} {vs : List V} {xs : List α} (h : LsAt R H vs xs) (k : ∀ v x, R H v x → R H' v x) : LsAt R H' vs xs := ⟨h.1, fun i v x h1 h2 => k v x (h.2 i v x h1 h2)⟩
theorem LsAt.nil {α : Type} {R : Hp → V → α → Prop} {H : Hp} : LsAt R H [] [] := ⟨rfl, fun i v x h => by simp at h⟩
theorem LsAt.app {α : Type} {R : Hp → V → α → Prop} {H : Hp} {zs ys : List V} {ns ms : List α} (h : LsAt R H zs ns) (k : LsAt R H ys ms) : LsAt R H (zs ++ ys) (ns ++ ms) := by
  refine ⟨by simp [h.1, k.1], fun i y p h1 h2 => ?_⟩
  rcases Nat.lt_or_ge i zs.length with l | l
  · rw [List.getElem?_append_left l] at h1
    rw [List.getElem?_append_left (by rw [← h.1]; exact l)] at h2
    exact h.2 i y p h1 h2
  · rw [List.getElem?_append_right l] at h1
    rw [List.getElem?_append_right (by rw [← h.1]; exact l), ← h.1] at h2
    exact k.2 _ y p h1 h2
theorem LsAt.one {α : Type} {R : Hp → V → α → Prop} {H : Hp} {z : V} {o : α} (k : R H z o) : LsAt R H [z] [o] := by
  refine ⟨rfl, fun i y p h1 h2 => ?_⟩
  rcases i with _ | i
  · cases h1
    cases h2
    exact k
  · simp at h1
theorem LsAt.add {α : Type} {R : Hp → V → α → Prop} {H : Hp} {zs : List V} {ns : List α} {z : V} {o : α} (h : LsAt R H zs ns) (k : R H z o) : LsAt R H (zs ++ [z]) (ns ++ [o]) := h.app (.one k)
theorem LsAt.get {α : Type} {R : Hp → V → α → Prop} {H : Hp} {zs : List V} {ns : List α} (h : LsAt R H zs ns) {i : Nat} {v : V} (e : zs[i]? = some v) : ∃ x, ns[i]? = some x ∧ R H v x := by
  have hi : i < ns.length := by rw [← h.1]; exact (List.getElem?_eq_some_iff.mp e).1
  exact ⟨ns[i], List.getElem?_eq_getElem hi, h.2 i v _ e (List.getElem?_eq_getElem hi)⟩
theorem LsAt.get' {α : Type} {R : Hp → V → α → Prop} {H : Hp} {zs : List V} {ns : List α} (h : LsAt R H zs ns) {i : Nat} {x : α} (e : ns[i]? = some x) : ∃ v, zs[i]? = some v ∧ R H v x := by
  have hi : i < zs.length := by rw [h.1]; exact (List.getElem?_eq_some_iff.mp e).1
  exact ⟨zs[i], List.getElem?_eq_getElem hi, h.2 i _ x (List.getElem?_eq_getElem hi) e⟩
def nuB (x : Bn) : Nu := ⟨x.t, x.r, x.b⟩
def RwAt (H : Hp) (v : V) (x : Bn) : Prop := ∃ p y, v = .ref p ∧ H p = some (.tup [.int (x.d : Nat), y]) ∧ N3At H y (nuB x)
theorem RwAt.kps {H H' : Hp} {v : V} {x : Bn} (h : RwAt H v x) (s : Kps H H') : RwAt H' v x := by
  obtain ⟨p, y, rfl, e, n⟩ := h
  exact ⟨p, y, rfl, s.tup e, n.kps s⟩
def PnAt (H : Hp) (v : V) (z : Nu × Nu) : Prop := ∃ p x y, v = .ref p ∧ H p = some (.tup [x, y]) ∧ N3At H x z.1 ∧ N3At H y z.2
theorem PnAt.kps {H H' : Hp} {v : V} {z : Nu × Nu} (h : PnAt H v z) (s : Kps H H') : PnAt H' v z := by
  obtain ⟨p, x, y, rfl, e, n1, n2⟩ := h
  exact ⟨p, x, y, rfl, s.tup e, n1.kps s, n2.kps s⟩
def rwOk (x : Bn) : Prop := x.d < 8 ∧ Nu.ok 200 50 (nuB x)
def rwL (x : Bn) : Prop := x.d < 8 ∧ Nu.ok 900 900 (nuB x)
theorem rwOk.l {xs : List Bn} (h : ∀ x ∈ xs, rwOk x) : ∀ x ∈ xs, rwL x := fun x hx => ⟨(h x hx).1, (h x hx).2.mono (by decide) (by decide)⟩
abbrev s__law_great : Stmt := top 25
theorem sc__law_great : FnScope ["draws", "eights", "number", "k"] ["draws", "eights"] (defScope s__law_great) := ⟨rfl, rfl, rfl, by decide +kernel, rfl, by decide +kernel, by decide +kernel⟩

def sp__law_great (Z : Zs) : Sp := fun vs H Q E =>
  ∃ (p c : Addr) (e : Nat), vs = [.ref p, .int e] ∧ St4 H p c ∧ e ≤ 3 ∧ ∀ n H', 0 ≤ n → Bw 84 n → SameX p H H' → St4 H' p c → Q (.int n) H'
theorem ok__law_great (T : Txt Z mg) (h__law_draw : Has P w Z.K mg base "_law_draw" 1 ["draws", "many"] (sp__law_draw Z)) (D : AtF Z.K mg "_law_great" "_law_great" s__law_great ["draws", "eights"]) : Has P w Z.K mg base "_law_great" 2 ["draws", "eights"] (sp__law_great Z) := by
  refine D.ok sc__law_great (fun vs H Q E h => ?_) (fun cdv A outer s H vs Q E hr h => ?_)
  · obtain ⟨p, c, e, rfl, _⟩ := h
    rfl
  · refine ⟨_, (pss_cons (ps_set (i := 2) sc__law_great.nd rfl (Or.inl rfl) pe_int)
      (pss_cons (ps_for (passes_of rfl) rfl (pi_range1 rfl T.n_range (pa_cons (pv 1) pa_nil)) (pg_name (i := 3) sc__law_great.nd rfl (Or.inl rfl)) (pss_one (ps_set (i := 2) sc__law_great.nd rfl (Or.inl rfl) (pe_op op_add (pe_op op_mulS (pv 2) (pe_op op_pow pe_int pe_int)) (pe_h (E := ED E) h__law_draw hr (paW (takes_of rfl rfl rfl rfl)) (pa_cons (pv 0) (pa_cons (pe_op op_pow pe_int pe_int) pa_nil)))))))
      (pss_one (ps_ret (pv 2))))), ?_⟩
    try simp only [cxOf]
    obtain ⟨p, c, e, rfl, st, e3, q⟩ := h
    walk_at "W"
    refine k_forR (fun i σ' H' => (∃ (n : Int) (z : Option V), σ' = [some (.ref p), some (.int (e : Nat)), some (.int n), z] ∧ 0 ≤ n ∧ Bw (28 * i) n) ∧ SameX p H H' ∧ St4 H' p c) (by omega) (by omega) ⟨⟨0, _, rfl, by decide, by unfold Bw; decide⟩, fun _ _ _ h => h, st⟩ ?_ ?_
    · rintro i σ' H' hi ⟨⟨n, z, rfl, n0, nw⟩, x1, st1⟩
      walk_at "W"
      refine w_I (bwm nw (show Bw 27 ((10 : Int) ^ (8 : Int).toNat) by unfold Bw; decide) (by have : 28 * i ≤ 8000 := by omega
                                                                                              simp; omega)) ?_
      walk_at "W"
      refine ⟨p, c, _, rfl, st1, by decide, by unfold Bw; decide, fun m H2 m0 m1 x2 st2 => ?_⟩
      walk_at "W"
      have m2 : m < 100000000 := m1
      have hw : Bw 27 ((10 : Int) ^ (8 : Int).toNat) := by unfold Bw; decide
      have h0 : (0 : Int) ≤ n * 10 ^ (8 : Int).toNat := Int.mul_nonneg n0 (by decide)
      refine ⟨⟨_, _, rfl, by omega, ?_⟩, x1.trans x2, st2⟩
      exact ((nw.mul hw).add ((show Bw 27 m by unfold Bw; omega))).mono (by omega)
    · rintro σ' H' ⟨⟨n, z, rfl, n0, nw⟩, x1, st1⟩
      walk_at "W"
      exact q n H' n0 (nw.mono (by omega)) x1 st1
abbrev s__law_number : Stmt := top 26
theorem sc__law_number : FnScope ["draws", "kind", "top", "root"] ["draws"] (defScope s__law_number) := ⟨rfl, rfl, rfl, by decide +kernel, rfl, by decide +kernel, by decide +kernel⟩

def sp__law_number (Z : Zs) : Sp := fun vs H Q E =>
  ∃ (p c : Addr), vs = [.ref p] ∧ St4 H p c ∧ ∀ u n H', SameX p H H' → St4 H' p c → N3At H' u n → Nu.ok 86 14 n → Q u H'
theorem ok__law_number (T : Txt Z mg) (h__law_draw : Has P w Z.K mg base "_law_draw" 1 ["draws", "many"] (sp__law_draw Z)) (h__law_great : Has P w Z.K mg base "_law_great" 2 ["draws", "eights"] (sp__law_great Z)) (D : AtF Z.K mg "_law_number" "_law_number" s__law_number ["draws"]) : Has P w Z.K mg base "_law_number" 3 ["draws"] (sp__law_number Z) := by
  refine D.ok sc__law_number (fun vs H Q E h => ?_) (fun cdv A outer s H vs Q E hr h => ?_)
  · obtain ⟨p, c, rfl, _⟩ := h
    rfl
  · refine ⟨_, (pss_cons (ps_set (i := 1) sc__law_number.nd rfl (Or.inl rfl) (pe_h (E := ED E) h__law_draw hr (paW (takes_of rfl rfl rfl rfl)) (pa_cons (pv 0) (pa_cons pe_int pa_nil))))
      (pss_cons (ps_if (pt_cmpR op_eq (pv 1) pe_int (nomark _)) (pss_cons (ps_set (i := 2) sc__law_number.nd rfl (Or.inl rfl) (pe_op op_sub (pe_h (E := ED E) h__law_great hr (paW (takes_of rfl rfl rfl rfl)) (pa_cons (pv 0) (pa_cons pe_int pa_nil))) (pe_op op_mulS pe_int (pe_op op_pow pe_int pe_int))))
      (pss_one (ps_ret (pe_tup (pa_cons (pv 2) (pa_cons (pe_op op_sub (pe_h (E := ED E) h__law_great hr (paW (takes_of rfl rfl rfl rfl)) (pa_cons (pv 0) (pa_cons pe_int pa_nil))) (pe_op op_mulS pe_int (pe_op op_pow pe_int pe_int))) (pa_cons (pe_op op_add pe_int (pe_h (E := ED E) h__law_draw hr (paW (takes_of rfl rfl rfl rfl)) (pa_cons (pv 0) (pa_cons (pe_op op_pow pe_int pe_int) pa_nil)))) pa_nil))))))) pss_nil)
      (pss_cons (ps_if (pt_cmpR op_eq (pv 1) pe_int (nomark _)) (pss_one (ps_ret (pe_tup (pa_cons (pe_op op_sub (pe_h (E := ED E) h__law_draw hr (paW (takes_of rfl rfl rfl rfl)) (pa_cons (pv 0) (pa_cons pe_int pa_nil))) pe_int) (pa_cons (pe_op op_sub (pe_h (E := ED E) h__law_draw hr (paW (takes_of rfl rfl rfl rfl)) (pa_cons (pv 0) (pa_cons pe_int pa_nil))) pe_int) (pa_cons (pe_op op_add pe_int (pe_h (E := ED E) h__law_draw hr (paW (takes_of rfl rfl rfl rfl)) (pa_cons (pv 0) (pa_cons pe_int pa_nil)))) pa_nil)))))) pss_nil)
      (pss_cons (ps_set (i := 3) sc__law_number.nd rfl (Or.inl rfl) pe_int)
      (C8.pss_cut (ps_if (pt_cmpR op_lt (pv 1) pe_int (nomark _)) (pss_one (ps_set (i := 3) sc__law_number.nd rfl (Or.inl rfl) (pe_op op_sub (pe_h (E := ED E) h__law_draw hr (paW (takes_of rfl rfl rfl rfl)) (pa_cons (pv 0) (pa_cons pe_int pa_nil))) pe_int))) pss_nil)
      (pss_one (ps_ret (pe_tup (pa_cons (pe_op op_sub (pe_h (E := ED E) h__law_draw hr (paW (takes_of rfl rfl rfl rfl)) (pa_cons (pv 0) (pa_cons pe_int pa_nil))) pe_int) (pa_cons (pv 3) (pa_cons (pe_op op_add pe_int (pe_h (E := ED E) h__law_draw hr (paW (takes_of rfl rfl rfl rfl)) (pa_cons (pv 0) (pa_cons pe_int pa_nil)))) pa_nil))))))))))), ?_⟩
    try simp only [cxOf]
    obtain ⟨p, c, rfl, st, q⟩ := h
    walk_at "W"
    refine ⟨p, c, _, rfl, st, by decide, by unfold Bw; decide, fun kd H1 k0 k1 x1 st1 => ?_⟩
    walk_at "W"
    by_cases h7 : kd = 7
    · rw [decide_eq_true (by rw [h7])]
      walk_at "W"
      refine ⟨p, c, 3, rfl, st1, by decide, fun n1 H2 n0 nw x2 st2 => ?_⟩
      walk_at "W"
      refine ⟨p, c, 2, rfl, st2, by decide, fun n2 H3 n20 n2w x3 st3 => ?_⟩
      walk_at "W"
      refine ⟨p, c, _, rfl, st3, by decide, by unfold Bw; decide, fun n3 H4 n30 n31 x4 st4 => ?_⟩
      walk_at "W"
      refine k_tup rfl fun u H5 hu s5 e5 => ?_
      refine q (.ref u) ⟨_, _, _⟩ H5 (x1.trans (x2.trans (x3.trans (x4.trans (Same.x s5))))) (st4.same s5) ⟨u, rfl, e5⟩ ⟨by show (0 : Int) < 1 + n3; omega, ?_, ?_, ?_⟩
      · exact (nw.sub (show Bw 84 (5 * 10 ^ (23 : Int).toNat) by unfold Bw; decide)).mono (by decide)
      · exact (n2w.sub (show Bw 84 (5 * 10 ^ (15 : Int).toNat) by unfold Bw; decide)).mono (by decide)
      · have : n3 < 10000 := n31
        show Bw 14 (1 + n3)
        unfold Bw
        omega
    rw [decide_eq_false (fun z => h7 (by injection z))]
    walk_at "W"
    by_cases h6 : kd = 6
    · rw [decide_eq_true (by rw [h6])]
      walk_at "W"
      refine ⟨p, c, _, rfl, st1, by decide, by unfold Bw; decide, fun n1 H2 n0 n01 x2 st2 => ?_⟩
      walk_at "W"
      refine ⟨p, c, _, rfl, st2, by decide, by unfold Bw; decide, fun n2 H3 n20 n21 x3 st3 => ?_⟩
      walk_at "W"
      refine ⟨p, c, _, rfl, st3, by decide, by unfold Bw; decide, fun n3 H4 n30 n31 x4 st4 => ?_⟩
      walk_at "W"
      refine k_tup rfl fun u H5 hu s5 e5 => ?_
      refine q (.ref u) ⟨_, _, _⟩ H5 (x1.trans (x2.trans (x3.trans (x4.trans (Same.x s5))))) (st4.same s5) ⟨u, rfl, e5⟩ ⟨by show (0 : Int) < 1 + n3; omega, ?_, ?_, ?_⟩
      · show Bw 86 (n1 - 1000)
        unfold Bw
        omega
      · show Bw 86 (n2 - 1000)
        unfold Bw
        omega
      · show Bw 14 (1 + n3)
        unfold Bw
        omega
    rw [decide_eq_false (fun z => h6 (by injection z))]
    walk_at "W"
    refine w_cut (fun σ' H' => (∃ r : Int, σ' = [some (.ref p), some (.int kd), none, some (.int r)] ∧ -3 ≤ r ∧ r ≤ 3) ∧ SameX p H H' ∧ St4 H' p c) ?_ ?_
    · walk_at "W"
      refine w_ite (fun _ => ?_) (fun _ => ?_)
      · walk_at "W"
        refine ⟨p, c, _, rfl, st1, by decide, by unfold Bw; decide, fun n1 H2 n0 n01 x2 st2 => ?_⟩
        walk_at "W"
        exact ⟨⟨_, rfl, by omega, by omega⟩, x1.trans x2, st2⟩
      · walk_at "W"
        exact ⟨⟨_, rfl, by omega, by omega⟩, x1, st1⟩
    rintro σ1 H2 ⟨⟨r, rfl, r0, r1⟩, x2, st2⟩
    walk_at "W"
    refine ⟨p, c, _, rfl, st2, by decide, by unfold Bw; decide, fun n1 H3 n0 n01 x3 st3 => ?_⟩
    walk_at "W"
    refine ⟨p, c, _, rfl, st3, by decide, by unfold Bw; decide, fun n2 H4 n20 n21 x4 st4 => ?_⟩
    walk_at "W"
    refine k_tup rfl fun u H5 hu s5 e5 => ?_
    refine q (.ref u) ⟨_, _, _⟩ H5 (x2.trans (x3.trans (x4.trans (Same.x s5)))) (st4.same s5) ⟨u, rfl, e5⟩ ⟨by show (0 : Int) < 1 + n2; omega, ?_, ?_, ?_⟩
    · show Bw 86 (n1 - 6)
      unfold Bw
      omega
    · show Bw 86 r
      unfold Bw
      omega
    · show Bw 14 (1 + n2)
      unfold Bw
      omega
abbrev s__law_plus : Stmt := top 27
theorem sc__law_plus : FnScope ["one", "other"] ["one", "other"] (defScope s__law_plus) := ⟨rfl, rfl, rfl, by decide +kernel, rfl, by decide +kernel, by decide +kernel⟩

def sp__law_plus (Z : Zs) : Sp := fun vs H Q E =>
  ∃ v w x y, vs = [v, w] ∧ N3At H v x ∧ N3At H w y ∧ Nu.ok 1000 1000 x ∧ Nu.ok 1000 1000 y ∧ ∀ u H', Same H H' → N3At H' u (plN x y) → Q u H'
theorem ok__law_plus (T : Txt Z mg)  (D : AtF Z.K mg "_law_plus" "_law_plus" s__law_plus ["one", "other"]) : Has P w Z.K mg base "_law_plus" 1 ["one", "other"] (sp__law_plus Z) := by
  refine D.ok sc__law_plus (fun vs H Q E h => ?_) (fun cdv A outer s H vs Q E hr h => ?_)
  · obtain ⟨v, w, x, y, rfl, _⟩ := h
    rfl
  · refine ⟨_, (pss_cons (ps_if (pt_cmpR op_eq (pe_ix ix_seq (pv 0) pe_int (fun _ _ => rfl)) (pe_ix ix_seq (pv 1) pe_int (fun _ _ => rfl)) (nomark _)) (pss_one (ps_ret (pe_tup (pa_cons (pe_op op_add (pe_ix ix_seq (pv 0) pe_int (fun _ _ => rfl)) (pe_ix ix_seq (pv 1) pe_int (fun _ _ => rfl))) (pa_cons (pe_op op_add (pe_ix ix_seq (pv 0) pe_int (fun _ _ => rfl)) (pe_ix ix_seq (pv 1) pe_int (fun _ _ => rfl))) (pa_cons (pe_ix ix_seq (pv 0) pe_int (fun _ _ => rfl)) pa_nil)))))) pss_nil)
      (pss_one (ps_ret (pe_tup (pa_cons (pe_op op_add (pe_op op_mulS (pe_ix ix_seq (pv 0) pe_int (fun _ _ => rfl)) (pe_ix ix_seq (pv 1) pe_int (fun _ _ => rfl))) (pe_op op_mulS (pe_ix ix_seq (pv 1) pe_int (fun _ _ => rfl)) (pe_ix ix_seq (pv 0) pe_int (fun _ _ => rfl)))) (pa_cons (pe_op op_add (pe_op op_mulS (pe_ix ix_seq (pv 0) pe_int (fun _ _ => rfl)) (pe_ix ix_seq (pv 1) pe_int (fun _ _ => rfl))) (pe_op op_mulS (pe_ix ix_seq (pv 1) pe_int (fun _ _ => rfl)) (pe_ix ix_seq (pv 0) pe_int (fun _ _ => rfl)))) (pa_cons (pe_op op_mulS (pe_ix ix_seq (pv 0) pe_int (fun _ _ => rfl)) (pe_ix ix_seq (pv 1) pe_int (fun _ _ => rfl))) pa_nil))))))), ?_⟩
    try simp only [cxOf]
    obtain ⟨v, w, x, y, rfl, ⟨p, rfl, ep⟩, ⟨p', rfl, ep'⟩, ox, oy, q⟩ := h
    walk_at "W"
    by_cases hb : x.b = y.b
    · rw [decide_eq_true (by rw [hb])]
      walk_at "W"
      refine k_tup rfl fun u H1 hu s1 e1 => q _ H1 s1 ⟨u, rfl, ?_⟩
      rw [show plN x y = ⟨x.t + y.t, x.r + y.r, x.b⟩ from if_pos hb]
      exact e1
    · rw [decide_eq_false (fun z => hb (by injection z))]
      walk_at "W"
      have m1 : ∀ {i j : Int}, Bw 1000 i → Bw 1000 j → CMulS i j := fun h h' => bwm h h' (by decide)
      refine w_I (m1 ox.2.1 oy.2.2.2) ?_
      walk_at "W"
      refine w_I (m1 oy.2.1 ox.2.2.2) ?_
      walk_at "W"
      refine w_I (m1 ox.2.2.1 oy.2.2.2) ?_
      walk_at "W"
      refine w_I (m1 oy.2.2.1 ox.2.2.2) ?_
      walk_at "W"
      refine w_I (m1 ox.2.2.2 oy.2.2.2) ?_
      walk_at "W"
      refine k_tup rfl fun u H1 hu s1 e1 => q _ H1 s1 ⟨u, rfl, ?_⟩
      rw [show plN x y = ⟨x.t * y.b + y.t * x.b, x.r * y.b + y.r * x.b, x.b * y.b⟩ from if_neg hb]
      exact e1
abbrev s__law_scaled : Stmt := top 28
theorem sc__law_scaled : FnScope ["part", "one"] ["part", "one"] (defScope s__law_scaled) := ⟨rfl, rfl, rfl, by decide +kernel, rfl, by decide +kernel, by decide +kernel⟩

def sp__law_scaled (Z : Zs) : Sp := fun vs H Q E =>
  ∃ k v x, vs = [.int k, v] ∧ N3At H v x ∧ Nu.ok 1000 1000 x ∧ Bw 200 k ∧ ∀ u H', Same H H' → N3At H' u (scN k x) → Q u H'
theorem ok__law_scaled (T : Txt Z mg)  (D : AtF Z.K mg "_law_scaled" "_law_scaled" s__law_scaled ["part", "one"]) : Has P w Z.K mg base "_law_scaled" 1 ["part", "one"] (sp__law_scaled Z) := by
  refine D.ok sc__law_scaled (fun vs H Q E h => ?_) (fun cdv A outer s H vs Q E hr h => ?_)
  · obtain ⟨k, v, x, rfl, _⟩ := h
    rfl
  · refine ⟨_, (pss_one (ps_ret (pe_tup (pa_cons (pe_op op_mulS (pv 0) (pe_ix ix_seq (pv 1) pe_int (fun _ _ => rfl))) (pa_cons (pe_op op_mulS (pv 0) (pe_ix ix_seq (pv 1) pe_int (fun _ _ => rfl))) (pa_cons (pe_ix ix_seq (pv 1) pe_int (fun _ _ => rfl)) pa_nil)))))), ?_⟩
    try simp only [cxOf]
    obtain ⟨k, v, x, rfl, ⟨p, rfl, ep⟩, ox, ok, q⟩ := h
    walk_at "W"
    refine w_I (bwm ok ox.2.1 (by decide)) ?_
    walk_at "W"
    refine w_I (bwm ok ox.2.2.1 (by decide)) ?_
    walk_at "W"
    exact k_tup rfl fun u H1 hu s1 e1 => q _ H1 s1 ⟨u, rfl, e1⟩
abbrev s__law_sign : Stmt := top 29
theorem sc__law_sign : FnScope ["one", "top", "root"] ["one"] (defScope s__law_sign) := ⟨rfl, rfl, rfl, by decide +kernel, rfl, by decide +kernel, by decide +kernel⟩

def sp__law_sign (Z : Zs) : Sp := fun vs H Q E =>
  ∃ v x, vs = [v] ∧ N3At H v x ∧ Bw 3000 x.t ∧ Bw 3000 x.r ∧ Q (.int (sg2 x.t x.r)) H
theorem ok__law_sign (T : Txt Z mg)  (D : AtF Z.K mg "_law_sign" "_law_sign" s__law_sign ["one"]) : Has P w Z.K mg base "_law_sign" 1 ["one"] (sp__law_sign Z) := by
  refine D.ok sc__law_sign (fun vs H Q E h => ?_) (fun cdv A outer s H vs Q E hr h => ?_)
  · obtain ⟨v, x, rfl, _⟩ := h
    rfl
  · refine ⟨_, (pss_cons (ps_set (i := 1) sc__law_sign.nd rfl (Or.inl rfl) (pe_ix ix_seq (pv 0) pe_int (fun _ _ => rfl)))
      (pss_cons (ps_set (i := 2) sc__law_sign.nd rfl (Or.inl rfl) (pe_ix ix_seq (pv 0) pe_int (fun _ _ => rfl)))
      (C8.pss_cut (ps_if (PW.pt (pw_and (pt_cmpR op_ge (pv 1) pe_int (nomark _)) (pw_and1 (pt_cmpR op_ge (pv 2) pe_int (nomark _))))) (pss_one (ps_ret (pe_callTy cn_int rfl T.n_int (by decide +kernel) (pa_cons (pe_cmpR op_gt (pe_op op_add (pv 1) (pv 2)) pe_int (nomark _)) pa_nil)))) pss_nil)
      (C8.pss_cut (ps_if (PW.pt (pw_and (pt_cmpR op_le (pv 1) pe_int (nomark _)) (pw_and1 (pt_cmpR op_le (pv 2) pe_int (nomark _))))) (pss_one (ps_ret (pe_un un_neg pe_int))) pss_nil)
      (pss_cons (ps_if (pt_cmpR op_gt (pv 1) pe_int (nomark _)) (pss_one (ps_ret (pe_ifExp (pt_cmpR op_gt (pe_op op_mulS (pv 1) (pv 1)) (pe_op op_mulS (pe_op op_mulS pe_int (pv 2)) (pv 2)) (nomark _)) pe_int (pe_un un_neg pe_int)))) pss_nil)
      (pss_one (ps_ret (pe_ifExp (pt_cmpR op_gt (pe_op op_mulS (pe_op op_mulS pe_int (pv 2)) (pv 2)) (pe_op op_mulS (pv 1) (pv 1)) (nomark _)) pe_int (pe_un un_neg pe_int))))))))), ?_⟩
    try simp only [cxOf]
    obtain ⟨v, x, rfl, ⟨p, rfl, ep⟩, bt, br, q⟩ := h
    have L : ∀ {k : Int}, sg2 x.t x.r = k → Q (.int k) H := fun e => e ▸ q
    generalize x.t = t at *
    generalize x.r = r at *
    have big : ¬ (t = 0 ∧ r = 0) → ¬ (0 ≤ t ∧ 0 ≤ r) → ¬ (t ≤ 0 ∧ r ≤ 0) → ∀ {k : Int}, (if t * t > 2 * r * r then (if 0 < t then 1 else -1) else if 0 < r then 1 else -1) = k → Q (.int k) H := fun n1 n2 n3 k e => L (by unfold sg2; rw [if_neg n1, if_neg n2, if_neg n3]; exact e)
    walk_at "W"
    refine w_cut (fun σ' H' => (σ' = [some (.ref p), some (.int t), some (.int r)] ∧ H' = H) ∧ ¬ (0 ≤ t ∧ 0 ≤ r)) ?_ ?_
    · walk_at "W"
      refine w_ite (fun h1 => ?_) (fun h1 => ?_)
      · walk_at "W"
        refine w_ite (fun h2 => ?_) (fun h2 => ?_)
        · walk_at "W"
          by_cases h3 : 0 < t + r
          · rw [decide_eq_true h3]
            exact L (by unfold sg2; rw [if_neg (by omega), if_pos (by omega)]; rfl)
          · rw [decide_eq_false h3]
            exact L (by unfold sg2; rw [if_pos (by omega)]; rfl)
        · walk_at "W"
          exact ⟨⟨rfl, rfl⟩, by omega⟩
      · walk_at "W"
        exact ⟨⟨rfl, rfl⟩, by omega⟩
    rintro σ' H' ⟨⟨rfl, rfl⟩, n2⟩
    walk_at "W"
    refine w_cut (fun σ' H1 => (σ' = [some (.ref p), some (.int t), some (.int r)] ∧ H1 = H') ∧ ¬ (t ≤ 0 ∧ r ≤ 0)) ?_ ?_
    · walk_at "W"
      refine w_ite (fun h1 => ?_) (fun h1 => ?_)
      · walk_at "W"
        refine w_ite (fun h2 => ?_) (fun h2 => ?_)
        · walk_at "W"
          exact L (by unfold sg2; rw [if_neg (by omega), if_neg (by omega), if_pos (by omega)])
        · walk_at "W"
          exact ⟨⟨rfl, rfl⟩, by omega⟩
      · walk_at "W"
        exact ⟨⟨rfl, rfl⟩, by omega⟩
    rintro σ' H1 ⟨⟨rfl, rfl⟩, n3⟩
    have go : ∀ {k : Int}, (if t * t > 2 * r * r then (if 0 < t then 1 else -1) else if 0 < r then 1 else -1) = k → Q (.int k) H1 := fun e => big (by omega) n2 n3 e
    have ne : t * t ≠ 2 * r * r := fun e => n2 (by have := sqr2 (t := t) (r := r) (by omega); omega)
    walk_at "W"
    refine w_ite (fun h0 => ?_) (fun h0 => ?_)
    · repeat (first | walk_at "s" | walk_at "mul")
      by_cases h1 : t * t > 2 * r * r
      · rw [decide_eq_true h1, if_pos rfl]
        repeat (first | walk_at "s" | walk_at "mul")
        exact go (by rw [if_pos (by omega), if_pos (by omega)])
      · rw [decide_eq_false h1, if_neg (by decide)]
        repeat (first | walk_at "s" | walk_at "mul")
        exact go (by rw [if_neg (by omega), if_neg (by omega)])
    · repeat (first | walk_at "s" | walk_at "mul")
      by_cases h1 : 2 * r * r > t * t
      · rw [decide_eq_true h1, if_pos rfl]
        repeat (first | walk_at "s" | walk_at "mul")
        exact go (by rw [if_neg (by omega), if_pos (by omega)])
      · rw [decide_eq_false h1, if_neg (by decide)]
        repeat (first | walk_at "s" | walk_at "mul")
        exact go (by rw [if_pos (by omega), if_neg (by omega)])
abbrev s__law_compare : Stmt := top 30
theorem sc__law_compare : FnScope ["one", "other"] ["one", "other"] (defScope s__law_compare) := ⟨rfl, rfl, rfl, by decide +kernel, rfl, by decide +kernel, by decide +kernel⟩

def sp__law_compare (Z : Zs) : Sp := fun vs H Q E =>
  ∃ v w x y, vs = [v, w] ∧ N3At H v x ∧ N3At H w y ∧ Nu.ok 990 990 x ∧ Nu.ok 990 990 y ∧ ∀ H', Same H H' → Q (.int (cmN x y)) H'
theorem ok__law_compare (T : Txt Z mg) (h__law_sign : Has P w Z.K mg base "_law_sign" 1 ["one"] (sp__law_sign Z)) (h__law_plus : Has P w Z.K mg base "_law_plus" 1 ["one", "other"] (sp__law_plus Z)) (h__law_scaled : Has P w Z.K mg base "_law_scaled" 1 ["part", "one"] (sp__law_scaled Z)) (D : AtF Z.K mg "_law_compare" "_law_compare" s__law_compare ["one", "other"]) : Has P w Z.K mg base "_law_compare" 2 ["one", "other"] (sp__law_compare Z) := by
  refine D.ok sc__law_compare (fun vs H Q E h => ?_) (fun cdv A outer s H vs Q E hr h => ?_)
  · obtain ⟨v, w, x, y, rfl, _⟩ := h
    rfl
  · refine ⟨_, (pss_one (ps_ret (pe_h (E := ED E) h__law_sign hr (paW (takes_of rfl rfl rfl rfl)) (pa_cons (pe_h (E := ED E) h__law_plus hr (paW (takes_of rfl rfl rfl rfl)) (pa_cons (pv 0) (pa_cons (pe_h (E := ED E) h__law_scaled hr (paW (takes_of rfl rfl rfl rfl)) (pa_cons (pe_un un_neg pe_int) (pa_cons (pv 1) pa_nil))) pa_nil))) pa_nil)))), ?_⟩
    try simp only [cxOf]
    obtain ⟨v, w, x, y, rfl, hx, hy, ox, oy, q⟩ := h
    have os : Nu.ok 991 990 (scN (-1) y) := scN_ok oy (by unfold Bw; decide)
    have op := plN_ok ox os
    walk_at "W"
    refine ⟨_, _, y, rfl, hy, oy.mono (by decide) (by decide), by unfold Bw; decide, fun u H1 s1 hu => ?_⟩
    walk_at "W"
    refine ⟨_, _, x, _, rfl, hx.same s1, hu, ox.mono (by decide) (by decide), os.mono (by decide) (by decide), fun u' H2 s2 hu' => ?_⟩
    walk_at "W"
    refine ⟨_, _, rfl, hu', op.2.1.mono (by decide), op.2.2.1.mono (by decide), ?_⟩
    walk_at "W"
    exact q H2 (s1.trans s2)
abbrev s__law_hand : Stmt := top 32
theorem sc__law_hand : FnScope ["draws", "number"] ["draws", "number"] (defScope s__law_hand) := ⟨rfl, rfl, rfl, by decide +kernel, rfl, by decide +kernel, by decide +kernel⟩

def sp__law_hand (Z : Zs) : Sp := fun vs H Q E =>
  ∃ (p c : Addr) (v : V) (n : Nu), vs = [.ref p, v] ∧ St4 H p c ∧ N3At H v n ∧ Nu.ok 900 900 n ∧ ∀ u H', SameX p H H' → St4 H' p c → NumAt Z.c_Root H' u (lowT n.t n.r n.b) (lowR n.t n.r n.b) (lowB n.t n.r n.b) → Q u H'
theorem ok__law_hand (T : Txt Z mg) (h_Root : HasC P w Z.K mg base "Root" Z.c_Root 3 ["self", "top", "root", "bottom"] (sp_Root_init Z)) (h__law_draw : Has P w Z.K mg base "_law_draw" 1 ["draws", "many"] (sp__law_draw Z)) (D : AtF Z.K mg "_law_hand" "_law_hand" s__law_hand ["draws", "number"]) : Has P w Z.K mg base "_law_hand" 5 ["draws", "number"] (sp__law_hand Z) := by
  refine D.ok sc__law_hand (fun vs H Q E h => ?_) (fun cdv A outer s H vs Q E hr h => ?_)
  · obtain ⟨p, c, v, n, rfl, _⟩ := h
    rfl
  · refine ⟨_, (pss_cons (ps_if (PW.pt (pw_and (pt_cmpR op_eq (pe_ix ix_seq (pv 1) pe_int (fun _ _ => rfl)) pe_int (nomark _)) (pw_and (pt_cmpR op_eq (pe_ix ix_seq (pv 1) pe_int (fun _ _ => rfl)) pe_int (nomark _)) (pw_and1 (pt_cmpR op_eq (pe_h (E := ED E) h__law_draw hr (paW (takes_of rfl rfl rfl rfl)) (pa_cons (pv 0) (pa_cons pe_int pa_nil))) pe_int (nomark _)))))) (pss_one (ps_ret (pe_ix ix_seq (pv 1) pe_int (fun _ _ => rfl)))) pss_nil)
      (pss_one (ps_ret (pe_hc (E := ED E) h_Root hr (paW (takes_of rfl rfl rfl rfl)) (pa_cons (pe_ix ix_seq (pv 1) pe_int (fun _ _ => rfl)) (pa_cons (pe_ix ix_seq (pv 1) pe_int (fun _ _ => rfl)) (pa_cons (pe_ix ix_seq (pv 1) pe_int (fun _ _ => rfl)) pa_nil))))))), ?_⟩
    try simp only [cxOf]
    obtain ⟨p, c, v, n, rfl, st, ⟨w, rfl, e⟩, o, q⟩ := h
    have mk : ∀ {σ' : L2.St} {H' : Hp}, SameX p H H' → St4 H' p c → H' w = some (.tup [.int n.t, .int n.r, .int n.b]) → MkC Z.c_Root (sp_Root_init Z) (ED E σ') [.int n.t, .int n.r, .int n.b] H' Q := fun {σ' H'} x s e => k_mkRootI (by have := o.1; omega) (o.2.2.2.bd (by decide)) fun u H2 s2 hu => q u H2 (x.trans (Same.x s2)) (s.same s2) (.inl hu)
    walk_at "W"
    by_cases h1 : n.r = 0
    · rw [decide_eq_true (by rw [h1])]
      walk_at "W"
      by_cases h2 : n.b = 1
      · rw [decide_eq_true (by rw [h2])]
        walk_at "W"
        refine ⟨p, c, _, rfl, st, by decide, by unfold Bw; decide, fun k H1 k0 k1 x1 st1 => ?_⟩
        have e1 := st.kps x1 |>.tup e
        walk_at "W"
        by_cases h3 : k = 0
        · rw [decide_eq_true (by rw [h3])]
          walk_at "W"
          refine q _ H1 x1 st1 (.inr ?_)
          obtain ⟨l1, l2, l3⟩ := low1 n.t
          rw [h1, h2]
          exact ⟨n.t, rfl, l1, l2, l3⟩
        · rw [decide_eq_false (fun z => h3 (by injection z))]
          walk_at "W"
          exact mk x1 st1 e1
      · rw [decide_eq_false (fun z => h2 (by injection z))]
        walk_at "W"
        exact mk (fun _ _ _ h => h) st e
    · rw [decide_eq_false (fun z => h1 (by injection z))]
      walk_at "W"
      exact mk (fun _ _ _ h => h) st e
/-- a number as the program holds it -/
def LoAt (c : Addr) (H : Hp) (v : V) (n : Nu) : Prop := NumAt c H v (lowT n.t n.r n.b) (lowR n.t n.r n.b) (lowB n.t n.r n.b)
theorem LoAt.kps {c : Addr} {H H' : Hp} {v : V} {n : Nu} (h : LoAt c H v n) (s : Kps H H') : LoAt c H' v n := by
  rcases h with ⟨a, dx, rfl, e⟩ | h
  · exact .inl ⟨a, dx, rfl, s _ _ (by intro xs z; cases z) e⟩
  · exact .inr h
def PlAt (c : Addr) (H : Hp) (v : V) (z : Nu × Nu) : Prop := ∃ p x y, v = .ref p ∧ H p = some (.tup [x, y]) ∧ LoAt c H x z.1 ∧ LoAt c H y z.2
def lowN (x : Bn) : Bn := lowBn x.d x.t x.r x.b
abbrev s__law_handed : Stmt := top 33
theorem sc__law_handed : FnScope ["draws", "rows", "row"] ["draws", "rows"] (defScope s__law_handed) := ⟨rfl, rfl, rfl, by decide +kernel, rfl, by decide +kernel, by decide +kernel⟩

def sp__law_handed (Z : Zs) : Sp := fun vs H Q E =>
  ∃ (p c a : Addr) (ws : List V) (xs : List Bn), vs = [.ref p, .ref a] ∧ St4 H p c ∧ a ≠ p ∧ H a = some (.lst ws) ∧ LsAt RwAt H ws xs ∧ xs.length ≤ 400 ∧ (∀ x ∈ xs, rwL x) ∧ ∀ u zs H', H u = none → SameX p H H' → St4 H' p c → H' u = some (.lst zs) → BnsAt Z.c_Root H' zs (xs.map lowN) → Q (.ref u) H'
theorem ok__law_handed (T : Txt Z mg) (h__law_hand : Has P w Z.K mg base "_law_hand" 5 ["draws", "number"] (sp__law_hand Z)) (D : AtF Z.K mg "_law_handed" "_law_handed" s__law_handed ["draws", "rows"]) : Has P w Z.K mg base "_law_handed" 6 ["draws", "rows"] (sp__law_handed Z) := by
  refine D.ok sc__law_handed (fun vs H Q E h => ?_) (fun cdv A outer s H vs Q E hr h => ?_)
  · obtain ⟨p, c, a, ws, xs, rfl, _⟩ := h
    rfl
  · refine ⟨_, (pss_one (ps_ret (pe_lc (own := [("row", 2)]) (g := gName 2) rfl sc__law_handed.nd (pi_list (pv 1)) (blkOk_by (N := ["draws", "rows", "row"]) (sc := (defScope s__law_handed)) (by decide +kernel)) (fun _ _ _ _ _ => pg_name (i := 2) sc__law_handed.nd rfl (Or.inl rfl)) (fun _ _ _ _ _ => pts_nil) (fun _ _ _ _ _ => (pe_tup (pa_cons (pe_ix (ix_seqZ (K := Z.K) rfl) (pv 2) pe_int (fun _ _ => rfl)) (pa_cons (pe_h (E := fun _ => E0) h__law_hand hr pa0 (pa_cons (pv 0) (pa_cons (pe_ix (ix_seqZ (K := Z.K) rfl) (pv 2) pe_int (fun _ _ => rfl)) pa_nil))) pa_nil))))))), ?_⟩
    try simp only [cxOf]
    obtain ⟨p, c, a, ws, xs, rfl, st, ap, ea, rw', l4, ok, q⟩ := h
    walk_at "W"
    refine k_lcL (xs := ws) (fun n D H' => H D = none ∧ SameX p H H' ∧ St4 H' p c ∧ ∃ zs, H' D = some (.lst zs) ∧ BnsAt Z.c_Root H' zs ((xs.take n).map lowN)) (SqL.of ea) (fun D hD => ⟨hD, Same.x (Same.new hD), st.other (st.new hD), [], upd_same, rfl, fun i v x h => by simp at h⟩) (fun n D H' h => SqL.of (h.2.1 _ _ ap ea)) ?_ ?_
    · rintro n z D H2 hz ⟨hD, x2, st2, zs, ez, bz⟩
      obtain ⟨x, ex, hx⟩ := rw'.get hz
      have k2 := st.kps x2
      obtain ⟨w, y, rfl, ew, ny⟩ := hx.kps k2
      have okx := ok x (List.mem_of_getElem? ex)
      have zl : zs.length ≤ 400 := by rw [bz.1, List.length_map, List.length_take]; omega
      have Dp := st.new hD
      refine ⟨rfl, w_yes (w_T rfl ?_)⟩
      walk_at "W"
      refine ⟨p, c, _, nuB x, rfl, st2, ny, okx.2.mono (by decide) (by decide), fun u3 H3 x3 st3 h3 => ?_⟩
      walk_at "W"
      refine k_tup rfl fun u4 H4 hu4 s4 e4 => ?_
      have ez4 := s4 _ _ (x3 _ _ Dp.1 ez)
      have kp : ∀ {zs' : List V}, Kps H4 (upd H4 D (.lst zs')) := fun {zs'} => Kps.sx ez4 (SameX.upd fun _ _ _ e => e)
      have K4 := (st2.kps x3).trans (Kps.same s4)
      have DpH : D ≠ p ∧ D ≠ c := Dp
      refine ⟨zs, ez4, few_lt (by omega), hD, fun b o nb eb => ?_, (st3.same s4).other Dp, _, upd_same, ?_⟩
      · rw [upd_ne (ne_of_none eb hD)]
        exact s4 _ _ (x3 _ _ nb (x2 _ _ nb eb))
      · rw [List.take_add_one, ex, List.map_append]
        have sx : Sm (lowT x.t x.r x.b) (lowR x.t x.r x.b) (lowB x.t x.r x.b) := Sm.low (by have := okx.2.1; show x.b ≠ 0; exact Int.ne_of_gt this) (okx.2.2.1.mono (by decide)) (okx.2.2.2.1.mono (by decide)) (okx.2.2.2.2.mono (by decide))
        have b4 : BnAt Z.c_Root H4 (.ref u4) (lowN x) := ⟨u4, u3, rfl, e4, LoAt.kps (n := nuB x) h3 (Kps.same s4), sx⟩
        exact ((bz.kps K4).kps kp).add (b4.kps kp)
    · rintro D H2 ⟨hD, x2, st2, zs, ez, bz⟩
      rw [rw'.1, List.take_length] at bz
      exact q D zs H2 hD x2 st2 ez bz
abbrev s__law_vector : Stmt := top 34
theorem sc__law_vector : FnScope ["way"] ["way"] (defScope s__law_vector) := ⟨rfl, rfl, rfl, by decide +kernel, rfl, by decide +kernel, by decide +kernel⟩

def sp__law_vector (Z : Zs) : Sp := fun vs H Q E =>
  ∃ d : Nat, vs = [.int d] ∧ d < 8 ∧ ∀ u H', Same H H' → H' u = some (.tup [.int (vx d), .int (vy d)]) → Q (.ref u) H'
theorem ok__law_vector (T : Txt Z mg)  (D : AtF Z.K mg "_law_vector" "_law_vector" s__law_vector ["way"]) : Has P w Z.K mg base "_law_vector" 1 ["way"] (sp__law_vector Z) := by
  refine D.ok sc__law_vector (fun vs H Q E h => ?_) (fun cdv A outer s H vs Q E hr h => ?_)
  · obtain ⟨d, rfl, _⟩ := h
    rfl
  · refine ⟨_, (pss_one (ps_ret (pe_ix ix_seq (pe_tup (pa_cons (pe_tup (pa_cons pe_int (pa_cons pe_int pa_nil))) (pa_cons (pe_tup (pa_cons pe_int (pa_cons pe_int pa_nil))) (pa_cons (pe_tup (pa_cons pe_int (pa_cons pe_int pa_nil))) (pa_cons (pe_tup (pa_cons (pe_un un_neg pe_int) (pa_cons pe_int pa_nil))) (pa_cons (pe_tup (pa_cons (pe_un un_neg pe_int) (pa_cons pe_int pa_nil))) (pa_cons (pe_tup (pa_cons (pe_un un_neg pe_int) (pa_cons (pe_un un_neg pe_int) pa_nil))) (pa_cons (pe_tup (pa_cons pe_int (pa_cons (pe_un un_neg pe_int) pa_nil))) (pa_cons (pe_tup (pa_cons pe_int (pa_cons (pe_un un_neg pe_int) pa_nil))) pa_nil))))))))) (pv 0) (fun _ _ => rfl)))), ?_⟩
    try simp only [cxOf]
    obtain ⟨d, rfl, hd, q⟩ := h
    walk_at "W"
    refine k_tup rfl fun u0 H1 hu0 s1 e0 => ?_
    walk_at "W"
    refine k_tup rfl fun u1 H2 hu1 s2 e1 => ?_
    walk_at "W"
    refine k_tup rfl fun u2 H3 hu2 s3 e2 => ?_
    walk_at "W"
    refine k_tup rfl fun u3 H4 hu3 s4 e3 => ?_
    walk_at "W"
    refine k_tup rfl fun u4 H5 hu4 s5 e4 => ?_
    walk_at "W"
    refine k_tup rfl fun u5 H6 hu5 s6 e5 => ?_
    walk_at "W"
    refine k_tup rfl fun u6 H7 hu6 s7 e6 => ?_
    walk_at "W"
    refine k_tup rfl fun u7 H8 hu7 s8 e7 => ?_
    walk_at "W"
    refine k_tup rfl fun u8 H9 hu8 s9 e8 => ?_
    walk_at "W"
    have f0 := (s9 _ _ (s8 _ _ (s7 _ _ (s6 _ _ (s5 _ _ (s4 _ _ (s3 _ _ (s2 _ _ e0))))))))
    have f1 := (s9 _ _ (s8 _ _ (s7 _ _ (s6 _ _ (s5 _ _ (s4 _ _ (s3 _ _ e1)))))))
    have f2 := (s9 _ _ (s8 _ _ (s7 _ _ (s6 _ _ (s5 _ _ (s4 _ _ e2))))))
    have f3 := (s9 _ _ (s8 _ _ (s7 _ _ (s6 _ _ (s5 _ _ e3)))))
    have f4 := (s9 _ _ (s8 _ _ (s7 _ _ (s6 _ _ e4))))
    have f5 := (s9 _ _ (s8 _ _ (s7 _ _ e5)))
    have f6 := (s9 _ _ (s8 _ _ e6))
    have f7 := (s9 _ _ e7)
    have S : Same H H9 := s1.trans (s2.trans (s3.trans (s4.trans (s5.trans (s6.trans (s7.trans (s8.trans s9)))))))
    refine d8_cases hd (P := fun d => (∀ u H', Same H H' → H' u = some (.tup [.int (vx d), .int (vy d)]) → Q (.ref u) H') → rIx Z.K (.ref u8) (.int (d : Nat)) H9 Q) ?_ ?_ ?_ ?_ ?_ ?_ ?_ ?_ q
    · exact fun q => w_ixT e8 rfl (q _ H9 S f0)
    · exact fun q => w_ixT e8 rfl (q _ H9 S f1)
    · exact fun q => w_ixT e8 rfl (q _ H9 S f2)
    · exact fun q => w_ixT e8 rfl (q _ H9 S f3)
    · exact fun q => w_ixT e8 rfl (q _ H9 S f4)
    · exact fun q => w_ixT e8 rfl (q _ H9 S f5)
    · exact fun q => w_ixT e8 rfl (q _ H9 S f6)
    · exact fun q => w_ixT e8 rfl (q _ H9 S f7)
abbrev s__law_along : Stmt := top 35
theorem sc__law_along : FnScope ["way", "point", "x", "y"] ["way", "point"] (defScope s__law_along) := ⟨rfl, rfl, rfl, by decide +kernel, rfl, by decide +kernel, by decide +kernel⟩

def sp__law_along (Z : Zs) : Sp := fun vs H Q E =>
  ∃ (d : Nat) (v : V) (z : Nu × Nu), vs = [.int d, v] ∧ d < 8 ∧ PnAt H v z ∧ Nu.ok 300 200 z.1 ∧ Nu.ok 300 200 z.2 ∧ ∀ u H', Same H H' → N3At H' u (alN d z.1 z.2) → Q u H'
theorem ok__law_along (T : Txt Z mg) (h__law_plus : Has P w Z.K mg base "_law_plus" 1 ["one", "other"] (sp__law_plus Z)) (h__law_scaled : Has P w Z.K mg base "_law_scaled" 1 ["part", "one"] (sp__law_scaled Z)) (h__law_vector : Has P w Z.K mg base "_law_vector" 1 ["way"] (sp__law_vector Z)) (D : AtF Z.K mg "_law_along" "_law_along" s__law_along ["way", "point"]) : Has P w Z.K mg base "_law_along" 2 ["way", "point"] (sp__law_along Z) := by
  refine D.ok sc__law_along (fun vs H Q E h => ?_) (fun cdv A outer s H vs Q E hr h => ?_)
  · obtain ⟨d, v, z, rfl, _⟩ := h
    rfl
  · refine ⟨_, (pss_cons (ps_asg (pe_h (E := ED E) h__law_vector hr (paW (takes_of rfl rfl rfl rfl)) (pa_cons (pv 0) pa_nil)) (pg_tup rfl (pgs_cons (pg_name (i := 2) sc__law_along.nd rfl (Or.inl rfl)) (pgs_cons (pg_name (i := 3) sc__law_along.nd rfl (Or.inl rfl)) pgs_nil))))
      (pss_one (ps_ret (pe_h (E := ED E) h__law_plus hr (paW (takes_of rfl rfl rfl rfl)) (pa_cons (pe_h (E := ED E) h__law_scaled hr (paW (takes_of rfl rfl rfl rfl)) (pa_cons (pv 2) (pa_cons (pe_ix ix_seq (pv 1) pe_int (fun _ _ => rfl)) pa_nil))) (pa_cons (pe_h (E := ED E) h__law_scaled hr (paW (takes_of rfl rfl rfl rfl)) (pa_cons (pv 3) (pa_cons (pe_ix ix_seq (pv 1) pe_int (fun _ _ => rfl)) pa_nil))) pa_nil)))))), ?_⟩
    try simp only [cxOf]
    obtain ⟨d, v, z, rfl, hd, ⟨w, x, y, rfl, e, n1, n2⟩, o1, o2, q⟩ := h
    obtain ⟨v1, v2⟩ := v_bw hd
    walk_at "W"
    refine ⟨d, rfl, hd, fun u1 H1 s1 e1 => ?_⟩
    walk_at "W"
    refine k_tup2S (SqT.of e1) rfl rfl ?_
    have ew := s1 _ _ e
    walk_at "W"
    refine ⟨_, _, z.1, rfl, n1.same s1, o1.mono (by decide) (by decide), v1.mono (by decide), fun u2 H2 s2 h2 => ?_⟩
    have ew2 := s2 _ _ ew
    walk_at "W"
    refine ⟨_, _, z.2, rfl, (n2.same s1).same s2, o2.mono (by decide) (by decide), v2.mono (by decide), fun u3 H3 s3 h3 => ?_⟩
    walk_at "W"
    refine ⟨_, _, _, _, rfl, h2.same s3, h3, (scN_ok o1 v1).mono (by decide) (by decide), (scN_ok o2 v2).mono (by decide) (by decide), fun u4 H4 s4 h4 => ?_⟩
    walk_at "W"
    exact q u4 H4 (s1.trans (s2.trans (s3.trans s4))) h4
abbrev s__law_lets : Stmt := top 36
theorem sc__law_lets : FnScope ["bound", "point"] ["bound", "point"] (defScope s__law_lets) := ⟨rfl, rfl, rfl, by decide +kernel, rfl, by decide +kernel, by decide +kernel⟩

def sp__law_lets (Z : Zs) : Sp := fun vs H Q E =>
  ∃ (v w : V) (x : Bn) (z : Nu × Nu), vs = [v, w] ∧ RwAt H v x ∧ rwOk x ∧ PnAt H w z ∧ Nu.ok 300 100 z.1 ∧ Nu.ok 300 100 z.2 ∧ ∀ H', Same H H' → Q (.bl (decide (cmN (alN x.d z.1 z.2) (nuB x) < 0))) H'
theorem ok__law_lets (T : Txt Z mg) (h__law_compare : Has P w Z.K mg base "_law_compare" 2 ["one", "other"] (sp__law_compare Z)) (h__law_along : Has P w Z.K mg base "_law_along" 2 ["way", "point"] (sp__law_along Z)) (D : AtF Z.K mg "_law_lets" "_law_lets" s__law_lets ["bound", "point"]) : Has P w Z.K mg base "_law_lets" 3 ["bound", "point"] (sp__law_lets Z) := by
  refine D.ok sc__law_lets (fun vs H Q E h => ?_) (fun cdv A outer s H vs Q E hr h => ?_)
  · obtain ⟨v, w, x, z, rfl, _⟩ := h
    rfl
  · refine ⟨_, (pss_one (ps_ret (pe_cmpR op_lt (pe_h (E := ED E) h__law_compare hr (paW (takes_of rfl rfl rfl rfl)) (pa_cons (pe_h (E := ED E) h__law_along hr (paW (takes_of rfl rfl rfl rfl)) (pa_cons (pe_ix ix_seq (pv 0) pe_int (fun _ _ => rfl)) (pa_cons (pv 1) pa_nil))) (pa_cons (pe_ix ix_seq (pv 0) pe_int (fun _ _ => rfl)) pa_nil))) pe_int (nomark _)))), ?_⟩
    try simp only [cxOf]
    obtain ⟨v, w, x, z, rfl, ⟨p, y, rfl, e, ny⟩, ok, hz, o1, o2, q⟩ := h
    obtain ⟨v1, v2⟩ := v_bw ok.1
    have oa : Nu.ok 990 990 (alN x.d z.1 z.2) := (plN_ok (scN_ok o1 v1) (scN_ok o2 v2)).mono (by decide) (by decide)
    walk_at "W"
    refine ⟨x.d, _, z, rfl, ok.1, hz, o1.mono (by decide) (by decide), o2.mono (by decide) (by decide), fun u1 H1 s1 h1 => ?_⟩
    have e1 := s1 _ _ e
    walk_at "W"
    refine ⟨_, _, _, nuB x, rfl, h1, ny.same s1, oa, ok.2.mono (by decide) (by decide), fun H2 s2 => ?_⟩
    walk_at "W"
    exact q H2 (s1.trans s2)
abbrev s__law_in_all : Stmt := top 37
theorem sc__law_in_all : FnScope ["rows", "point", "bound"] ["rows", "point"] (defScope s__law_in_all) := ⟨rfl, rfl, rfl, by decide +kernel, rfl, by decide +kernel, by decide +kernel⟩

def sp__law_in_all (Z : Zs) : Sp := fun vs H Q E =>
  ∃ (a : Addr) (ws : List V) (xs : List Bn) (w : V) (z : Nu × Nu), vs = [.ref a, w] ∧ H a = some (.lst ws) ∧ LsAt RwAt H ws xs ∧ (∀ x ∈ xs, rwOk x) ∧ PnAt H w z ∧ Nu.ok 300 100 z.1 ∧ Nu.ok 300 100 z.2 ∧ ∀ H', Same H H' → Q (.bl (xs.all fun x => decide (cmN (alN x.d z.1 z.2) (nuB x) < 0))) H'
theorem ok__law_in_all (T : Txt Z mg) (h__law_lets : Has P w Z.K mg base "_law_lets" 3 ["bound", "point"] (sp__law_lets Z)) (D : AtF Z.K mg "_law_in_all" "_law_in_all" s__law_in_all ["rows", "point"]) : Has P w Z.K mg base "_law_in_all" 4 ["rows", "point"] (sp__law_in_all Z) := by
  refine D.ok sc__law_in_all (fun vs H Q E h => ?_) (fun cdv A outer s H vs Q E hr h => ?_)
  · obtain ⟨a, ws, xs, w, z, rfl, _⟩ := h
    rfl
  · refine ⟨_, (pss_cons (ps_for (passes_of rfl) rfl (pi_list (pv 0)) (pg_name (i := 2) sc__law_in_all.nd rfl (Or.inl rfl)) (pss_one (ps_if (pt_not (pt_val (pe_h (E := ED E) h__law_lets hr (paW (takes_of rfl rfl rfl rfl)) (pa_cons (pv 2) (pa_cons (pv 1) pa_nil))))) (pss_one (ps_ret pe_bl)) pss_nil)))
      (pss_one (ps_ret pe_bl))), ?_⟩
    try simp only [cxOf]
    obtain ⟨a, ws, xs, w, z, rfl, ea, rw', ok, hz, o1, o2, q⟩ := h
    walk_at "W"
    refine k_forL (xs := ws) (fun i σ' H' => (∃ y, σ' = [some (.ref a), some w, y]) ∧ Same H H' ∧ ∀ x ∈ xs.take i, decide (cmN (alN x.d z.1 z.2) (nuB x) < 0) = true) (SqL.of ea) ⟨⟨_, rfl⟩, Same.refl _, fun x h => by simp at h⟩ (fun i σ' H' h => SqL.of (h.2.1 _ _ ea)) ?_ ?_
    · rintro i v σ' H2 hv ⟨⟨y, rfl⟩, s2, al⟩
      obtain ⟨x, ex, hx⟩ := rw'.get hv
      walk_at "W"
      refine ⟨_, _, x, z, rfl, hx.kps (Kps.same s2), ok x (List.mem_of_getElem? ex), hz.kps (Kps.same s2), o1, o2, fun H3 s3 => ?_⟩
      cases hd : decide (cmN (alN x.d z.1 z.2) (nuB x) < 0) with
      | false =>
        walk_at "W"
        have := q H3 (s2.trans s3)
        rw [List.all_eq_false.mpr ⟨x, List.mem_of_getElem? ex, by rw [hd]; simp⟩] at this
        exact this
      | true =>
        walk_at "W"
        refine ⟨⟨_, rfl⟩, s2.trans s3, fun x' hx' => ?_⟩
        rw [List.take_add_one, ex] at hx'
        rcases List.mem_append.mp hx' with h | h
        · exact al x' h
        · simp at h
          rw [h]
          exact hd
    · rintro σ' H2 ⟨⟨y, rfl⟩, s2, al⟩
      rw [rw'.1, List.take_length] at al
      walk_at "W"
      have := q H2 s2
      rw [List.all_eq_true.mpr al] at this
      exact this
abbrev s__law_rows : Stmt := top 38
theorem sc__law_rows : FnScope ["draws", "many", "k"] ["draws", "many"] (defScope s__law_rows) := ⟨rfl, rfl, rfl, by decide +kernel, rfl, by decide +kernel, by decide +kernel⟩

def sp__law_rows (Z : Zs) : Sp := fun vs H Q E =>
  ∃ (p c : Addr) (n : Int), vs = [.ref p, .int n] ∧ St4 H p c ∧ 0 ≤ n ∧ n ≤ 400 ∧ ∀ u ws xs H', H u = none → SameX p H H' → St4 H' p c → H' u = some (.lst ws) → LsAt RwAt H' ws xs → (∀ x ∈ xs, x.d < 8 ∧ Nu.ok 86 14 (nuB x)) → (xs.length : Int) = n → Q (.ref u) H'
theorem ok__law_rows (T : Txt Z mg) (h__law_number : Has P w Z.K mg base "_law_number" 3 ["draws"] (sp__law_number Z)) (h__law_draw : Has P w Z.K mg base "_law_draw" 1 ["draws", "many"] (sp__law_draw Z)) (D : AtF Z.K mg "_law_rows" "_law_rows" s__law_rows ["draws", "many"]) : Has P w Z.K mg base "_law_rows" 4 ["draws", "many"] (sp__law_rows Z) := by
  refine D.ok sc__law_rows (fun vs H Q E h => ?_) (fun cdv A outer s H vs Q E hr h => ?_)
  · obtain ⟨p, c, n, rfl, _⟩ := h
    rfl
  · refine ⟨_, (pss_one (ps_ret (pe_lc (own := [("k", 2)]) (g := gName 2) rfl sc__law_rows.nd (pi_range1 rfl T.n_range (pa_cons (pv 1) pa_nil)) (blkOk_by (N := ["draws", "many", "k"]) (sc := (defScope s__law_rows)) (by decide +kernel)) (fun _ _ _ _ _ => pg_name (i := 2) sc__law_rows.nd rfl (Or.inl rfl)) (fun _ _ _ _ _ => pts_nil) (fun _ _ _ _ _ => (pe_tup (pa_cons (pe_h (E := fun _ => E0) h__law_draw hr pa0 (pa_cons (pv 0) (pa_cons pe_int pa_nil))) (pa_cons (pe_h (E := fun _ => E0) h__law_number hr pa0 (pa_cons (pv 0) pa_nil)) pa_nil))))))), ?_⟩
    try simp only [cxOf]
    obtain ⟨p, c, n, rfl, st, n0, n4, q⟩ := h
    walk_at "W"
    refine k_lcR (fun i D H' => H D = none ∧ SameX p H H' ∧ St4 H' p c ∧ ∃ ws xs, H' D = some (.lst ws) ∧ LsAt RwAt H' ws xs ∧ (∀ x ∈ xs, x.d < 8 ∧ Nu.ok 86 14 (nuB x)) ∧ xs.length = i) (by omega) (by omega) (fun D hD => ⟨hD, Same.x (Same.new hD), st.other (st.new hD), [], [], upd_same, LsAt.nil, fun x h => by simp at h, rfl⟩) ?_ ?_
    · rintro i D H2 hi ⟨hD, x2, st2, ws, xs, ez, bz, ok, lx⟩
      have Dp := st.new hD
      have wl : ws.length = i := by rw [bz.1]; exact lx
      refine ⟨rfl, w_yes (w_T rfl ?_)⟩
      walk_at "W"
      refine ⟨p, c, _, rfl, st2, by decide, by unfold Bw; decide, fun d H3 d0 d1 x3 st3 => ?_⟩
      walk_at "W"
      refine ⟨p, c, rfl, st3, fun u3 nn H4 x4 st4 h4 o4 => ?_⟩
      walk_at "W"
      refine k_tup rfl fun u5 H5 hu5 s5 e5 => ?_
      have ez5 := s5 _ _ (x4 _ _ Dp.1 (x3 _ _ Dp.1 ez))
      have kp : ∀ {zs' : List V}, Kps H5 (upd H5 D (.lst zs')) := fun {zs'} => Kps.sx ez5 (SameX.upd fun _ _ _ e => e)
      have K5 := (st2.kps x3).trans ((st3.kps x4).trans (Kps.same s5))
      obtain ⟨k, rfl⟩ := Int.eq_ofNat_of_zero_le d0
      have k8 : k < 8 := by omega
      have in4 : i < 400 := by omega
      refine ⟨ws, ez5, few_lt (by omega), hD, fun b o nb eb => ?_, (st4.same s5).other Dp, _, xs ++ [⟨k, nn.t, nn.r, nn.b⟩], upd_same, ?_, fun x hx => ?_, by simp [lx]⟩
      · rw [upd_ne (ne_of_none eb hD)]
        exact s5 _ _ (x4 _ _ nb (x3 _ _ nb (x2 _ _ nb eb)))
      · exact LsAt.add (bz.imp fun v x h => (h.kps K5).kps kp) (RwAt.kps ⟨u5, u3, rfl, e5, h4.same s5⟩ kp)
      · rcases List.mem_append.mp hx with h | h
        · exact ok x h
        · simp at h
          rw [h]
          exact ⟨k8, o4⟩
    · rintro D H2 ⟨hD, x2, st2, ws, xs, ez, bz, ok, lx⟩
      exact q D ws xs H2 hD x2 st2 ez bz ok (by omega)
abbrev s__law_width : Stmt := top 39
theorem sc__law_width : FnScope ["draws"] ["draws"] (defScope s__law_width) := ⟨rfl, rfl, rfl, by decide +kernel, rfl, by decide +kernel, by decide +kernel⟩

def sp__law_width (Z : Zs) : Sp := fun vs H Q E =>
  ∃ (p c : Addr), vs = [.ref p] ∧ St4 H p c ∧ ∀ u n H', SameX p H H' → St4 H' p c → N3At H' u n → Nu.ok 4 3 n → Q u H'
theorem ok__law_width (T : Txt Z mg) (h__law_draw : Has P w Z.K mg base "_law_draw" 1 ["draws", "many"] (sp__law_draw Z)) (D : AtF Z.K mg "_law_width" "_law_width" s__law_width ["draws"]) : Has P w Z.K mg base "_law_width" 2 ["draws"] (sp__law_width Z) := by
  refine D.ok sc__law_width (fun vs H Q E h => ?_) (fun cdv A outer s H vs Q E hr h => ?_)
  · obtain ⟨p, c, rfl, _⟩ := h
    rfl
  · refine ⟨_, (pss_one (ps_ret (pe_tup (pa_cons (pe_op op_add pe_int (pe_h (E := ED E) h__law_draw hr (paW (takes_of rfl rfl rfl rfl)) (pa_cons (pv 0) (pa_cons pe_int pa_nil)))) (pa_cons (pe_h (E := ED E) h__law_draw hr (paW (takes_of rfl rfl rfl rfl)) (pa_cons (pv 0) (pa_cons pe_int pa_nil))) (pa_cons (pe_op op_add pe_int (pe_h (E := ED E) h__law_draw hr (paW (takes_of rfl rfl rfl rfl)) (pa_cons (pv 0) (pa_cons pe_int pa_nil)))) pa_nil)))))), ?_⟩
    try simp only [cxOf]
    obtain ⟨p, c, rfl, st, q⟩ := h
    walk_at "W"
    refine ⟨p, c, _, rfl, st, by decide, by unfold Bw; decide, fun n1 H2 n0 n01 x2 st2 => ?_⟩
    walk_at "W"
    refine ⟨p, c, _, rfl, st2, by decide, by unfold Bw; decide, fun n2 H3 n20 n21 x3 st3 => ?_⟩
    walk_at "W"
    refine ⟨p, c, _, rfl, st3, by decide, by unfold Bw; decide, fun n3 H4 n30 n31 x4 st4 => ?_⟩
    walk_at "W"
    refine k_tup rfl fun u H5 hu s5 e5 => ?_
    refine q (.ref u) ⟨_, _, _⟩ H5 (x2.trans (x3.trans (x4.trans (Same.x s5)))) (st4.same s5) ⟨u, rfl, e5⟩ ⟨by show (0 : Int) < 1 + n3; omega, ?_, ?_, ?_⟩
    · show Bw 4 (1 + n1)
      unfold Bw
      omega
    · show Bw 4 n2
      unfold Bw
      omega
    · show Bw 3 (1 + n3)
      unfold Bw
      omega
abbrev s__law_rows_round : Stmt := top 40
theorem sc__law_rows_round : FnScope ["draws", "many", "middle", "rows", "k", "way"] ["draws", "many"] (defScope s__law_rows_round) := ⟨rfl, rfl, rfl, by decide +kernel, rfl, by decide +kernel, by decide +kernel⟩

def sp__law_rows_round (Z : Zs) : Sp := fun vs H Q E =>
  ∃ (p c : Addr) (n : Int), vs = [.ref p, .int n] ∧ St4 H p c ∧ 0 ≤ n ∧ n ≤ 10 ∧ ∀ u ws xs H', H u = none → SameX p H H' → St4 H' p c → H' u = some (.lst ws) → LsAt RwAt H' ws xs → (∀ x ∈ xs, x.d < 8 ∧ Nu.ok 106 31 (nuB x)) → (xs.length : Int) = n → Q (.ref u) H'
theorem ok__law_rows_round (T : Txt Z mg) (h__law_plus : Has P w Z.K mg base "_law_plus" 1 ["one", "other"] (sp__law_plus Z)) (h__law_width : Has P w Z.K mg base "_law_width" 2 ["draws"] (sp__law_width Z)) (h__law_along : Has P w Z.K mg base "_law_along" 2 ["way", "point"] (sp__law_along Z)) (h__law_draw : Has P w Z.K mg base "_law_draw" 1 ["draws", "many"] (sp__law_draw Z)) (h__law_number : Has P w Z.K mg base "_law_number" 3 ["draws"] (sp__law_number Z)) (D : AtF Z.K mg "_law_rows_round" "_law_rows_round" s__law_rows_round ["draws", "many"]) : Has P w Z.K mg base "_law_rows_round" 4 ["draws", "many"] (sp__law_rows_round Z) := by
  refine D.ok sc__law_rows_round (fun vs H Q E h => ?_) (fun cdv A outer s H vs Q E hr h => ?_)
  · obtain ⟨p, c, n, rfl, _⟩ := h
    rfl
  · refine ⟨_, (pss_cons (ps_set (i := 2) sc__law_rows_round.nd rfl (Or.inl rfl) (pe_tup (pa_cons (pe_h (E := ED E) h__law_number hr (paW (takes_of rfl rfl rfl rfl)) (pa_cons (pv 0) pa_nil)) (pa_cons (pe_h (E := ED E) h__law_number hr (paW (takes_of rfl rfl rfl rfl)) (pa_cons (pv 0) pa_nil)) pa_nil))))
      (pss_cons (ps_set (i := 3) sc__law_rows_round.nd rfl (Or.inl rfl) (pe_lst pa_nil))
      (pss_cons (ps_for (passes_of rfl) rfl (pi_range1 rfl T.n_range (pa_cons (pv 1) pa_nil)) (pg_name (i := 4) sc__law_rows_round.nd rfl (Or.inl rfl)) (pss_cons (ps_set (i := 5) sc__law_rows_round.nd rfl (Or.inl rfl) (pe_h (E := ED E) h__law_draw hr (paW (takes_of rfl rfl rfl rfl)) (pa_cons (pv 0) (pa_cons pe_int pa_nil))))
      (pss_one (ps_expr (pe_bm PySem.F.plainAttrs_list PySem.F.slot_list_append PySem.F.type_list_append mt_append (pv 3) (pa_cons (pe_tup (pa_cons (pv 5) (pa_cons (pe_h (E := ED E) h__law_plus hr (paW (takes_of rfl rfl rfl rfl)) (pa_cons (pe_h (E := ED E) h__law_along hr (paW (takes_of rfl rfl rfl rfl)) (pa_cons (pv 5) (pa_cons (pv 2) pa_nil))) (pa_cons (pe_h (E := ED E) h__law_width hr (paW (takes_of rfl rfl rfl rfl)) (pa_cons (pv 0) pa_nil)) pa_nil))) pa_nil))) pa_nil))))))
      (pss_one (ps_ret (pv 3)))))), ?_⟩
    try simp only [cxOf]
    obtain ⟨p, c, n, rfl, st, n0, n4, q⟩ := h
    walk_at "W"
    refine ⟨p, c, rfl, st, fun m1 a1 H1 x1 st1 h1 o1 => ?_⟩
    walk_at "W"
    refine ⟨p, c, rfl, st1, fun m2 a2 H2 x2 st2 h2 o2 => ?_⟩
    walk_at "W"
    refine k_tup rfl fun mm H3 hmm s3 e3 => ?_
    walk_at "W"
    refine k_lst rfl fun l H4 hl s4 e4 => ?_
    have st4 := (st2.same s3).same s4
    have PM : PnAt H4 (.ref mm) (a1, a2) := PnAt.kps ⟨mm, _, _, rfl, e3, (h1.kps (st1.kps x2)).same s3, h2.same s3⟩ (Kps.same s4)
    have X4 : SameX p H H4 := x1.trans (x2.trans ((Same.x s3).trans (Same.x s4)))
    have nl : H l = none := by
      cases q : H l with
      | none => rfl
      | some o =>
        exfalso
        by_cases hp : l = p
        · exact ((st2.same s3).new hl).1 hp
        · rw [(x1.trans (x2.trans (Same.x s3))) l o hp q] at hl
          cases hl
    have lp := (st2.same s3).new hl
    walk_at "W"
    refine k_forR (fun i σ' H' => (∃ z1 z2, σ' = [some (.ref p), some (.int n), some (.ref mm), some (.ref l), z1, z2]) ∧ SameX p H H' ∧ St4 H' p c ∧ PnAt H' (.ref mm) (a1, a2) ∧ ∃ ws xs, H' l = some (.lst ws) ∧ LsAt RwAt H' ws xs ∧ (∀ x ∈ xs, x.d < 8 ∧ Nu.ok 106 31 (nuB x)) ∧ xs.length = i) (by omega) (by omega) ⟨⟨_, _, rfl⟩, X4, st4, PM, [], [], e4, LsAt.nil, fun x h => by simp at h, rfl⟩ ?_ ?_
    · rintro i σ' H5 hi ⟨⟨z1, z2, rfl⟩, x5, st5, pm, ws, xs, ez, bz, ok, lx⟩
      have wl : ws.length = i := by rw [bz.1]; exact lx
      walk_at "W"
      refine ⟨p, c, _, rfl, st5, by decide, by unfold Bw; decide, fun d H6 d0 d1 x6 st6 => ?_⟩
      obtain ⟨k, rfl⟩ := Int.eq_ofNat_of_zero_le d0
      have k8 : k < 8 := by omega
      obtain ⟨v1, v2⟩ := v_bw k8
      have K6 := st5.kps x6
      have ez6 := x6 _ _ lp.1 ez
      walk_at "W"
      refine k_bm ez6 ?_
      walk_at "W"
      refine ⟨k, _, (a1, a2), rfl, k8, pm.kps K6, o1.mono (by decide) (by decide), o2.mono (by decide) (by decide), fun u7 H7 s7 h7 => ?_⟩
      walk_at "W"
      refine ⟨p, c, rfl, st6.same s7, fun u8 wd H8 x8 st8 h8 o8 => ?_⟩
      have oa : Nu.ok 102 28 (alN k a1 a2) := (plN_ok (scN_ok o1 v1) (scN_ok o2 v2)).mono (by decide) (by decide)
      walk_at "W"
      refine ⟨_, _, alN k a1 a2, wd, rfl, h7.kps ((st6.same s7).kps x8), h8, oa.mono (by decide) (by decide), o8.mono (by decide) (by decide), fun u9 H9 s9 h9 => ?_⟩
      have or' : Nu.ok 106 31 (plN (alN k a1 a2) wd) := (plN_ok oa o8).mono (by decide) (by decide)
      walk_at "W"
      refine k_tup rfl fun u10 H10 hu10 s10 e10 => ?_
      walk_at "W"
      have S7 := s9.trans s10
      have ez10 := S7 _ _ (x8 _ _ lp.1 (s7 _ _ ez6))
      have K10 := K6.trans ((Kps.same s7).trans (((st6.same s7).kps x8).trans (Kps.same S7)))
      refine w_app ez10 (few_lt (by omega)) fun H11 x11 k11 e11 => ?_
      have kp := Kps.sx ez10 x11
      have lq : l ≠ p := lp.1
      have x10 : SameX p H H10 := x5.trans (x6.trans ((Same.x s7).trans (x8.trans (Same.x S7))))
      have st10 : St4 H10 p c := (st8.same S7)
      refine ⟨⟨_, _, rfl⟩, fun b o nb eb => x11 _ _ (fun z => by rw [z, nl] at eb; cases eb) (x10 b o nb eb), ?_, (pm.kps K10).kps kp, _, xs ++ [⟨k, (plN (alN k a1 a2) wd).t, (plN (alN k a1 a2) wd).r, (plN (alN k a1 a2) wd).b⟩], e11, ?_, fun x hx => ?_, by simp [lx]⟩
      · obtain ⟨ns, at_, pend, mix, g1, g2, g3⟩ := st10
        exact ⟨ns, at_, pend, mix, x11 _ _ (Ne.symm lp.1) g1, x11 _ _ (Ne.symm lp.2) g2, g3⟩
      · exact LsAt.add (bz.imp fun v x h => (h.kps K10).kps kp) (RwAt.kps ⟨u10, u9, rfl, e10, h9.same s10⟩ kp)
      · rcases List.mem_append.mp hx with h | h
        · exact ok x h
        · simp at h
          rw [h]
          exact ⟨k8, or'⟩
    · rintro σ' H5 ⟨⟨z1, z2, rfl⟩, x5, st5, pm, ws, xs, ez, bz, ok, lx⟩
      walk_at "W"
      exact q l ws xs H5 nl x5 st5 ez bz ok (by omega)
def rowD (x : Bn) : PyData := .tuple [.int (x.d : Nat), .tuple [.int x.t, .int x.r, .int x.b]]
theorem rows_shaped (ts : List Bn) : SeqAt.shaped (.list (ts.map rowD)) = true := by
  have h1 : ∀ r : List Bn, PyData.canLayAll0 (r.map rowD) = true := fun r => by
    induction r with
    | nil => rfl
    | cons c r ih =>
      show PyData.canLayAll0 (rowD c :: r.map rowD) = true
      rw [PyData.canLayAll0, ih]
      rfl
  have h2 : ∀ r : List Bn, PyData.depthAll (r.map rowD) ≤ 3 := fun r => by
    induction r with
    | nil => exact Nat.zero_le _
    | cons c r ih =>
      have : (rowD c).depth ≤ 2 := Nat.le_of_ble_eq_true rfl
      show PyData.depthAll (rowD c :: r.map rowD) ≤ 3
      rw [PyData.depthAll]
      omega
  unfold SeqAt.shaped
  rw [PyData.canLay0, h1, Bool.true_and, PyData.depth]
  have := h2 ts
  exact decide_eq_true (by omega)
theorem rw_dp {K : PySem.W.Frag} {H : Hp} {v : V} {x : Bn} (h : RwAt H v x) : Dp K H v (rowD x) := by
  obtain ⟨p, y, rfl, e, q, rfl, e'⟩ := h
  exact .tup (SqT.of e) (.cons (.int _) (.cons (.tup (SqT.of e') (.cons (.int _) (.cons (.int _) (.cons (.int _) .nil)))) .nil))
theorem rws_dp {K : PySem.W.Frag} {H : Hp} : ∀ {ws : List V} {xs : List Bn}, LsAt RwAt H ws xs → DpAll K H ws (xs.map rowD)
  | [], [], _ => .nil
  | [], _ :: _, h => by have := h.1; simp at this
  | _ :: _, [], h => by have := h.1; simp at this
  | w :: ws, x :: xs, h => .cons (rw_dp (h.2 0 w x rfl rfl)) (rws_dp ⟨by have := h.1; simpa using this, fun i v y h1 h2 => h.2 (i + 1) v y h1 h2⟩)
theorem w_eqRows {K : PySem.W.Frag} {H : Hp} {Q : VK} {a b : Addr} {ws : List V} {xs : List Bn} (h1 : H a = some (.lst ws)) (hl : LsAt RwAt H ws xs) (h2 : H b = some (.lst [])) (q : Q (.bl xs.isEmpty) H) : rEqD K (.ref a) (.ref b) H Q :=
  ⟨.list (xs.map rowD), .list [], .lst (SqL.of h1) (rws_dp hl), .lst (SqL.of h2) .nil, rows_shaped _, by decide +kernel, by
    cases xs with
    | nil => exact q
    | cons x xs => exact q⟩
/-! what the tightened bounds let is what all bounds let: by whole numbers L, t * q + r * p for a Pell pair far out -/
structure Far (p q : Int) : Prop where
  pell : Pell p q
  far : (2 : Int) ^ 3000 < q
theorem far_ex : ∃ p q, Far p q := by
  obtain ⟨p, q, h, l⟩ := pell_far (2 ^ 3000)
  refine ⟨p, q, h, ?_⟩
  rw [show ((2 : Int) ^ 3000) = ((2 ^ 3000 : Nat) : Int) from (Int.natCast_pow 2 3000).symm]
  exact l
def Lq (p q t r : Int) : Int := t * q + r * p
theorem Far.neg {p q t r : Int} (h : Far p q) (w : Bw 3000 r) : sgn t r < 0 ↔ Lq p q t r < 0 := by
  have hr : (r.natAbs : Int) < q := by
    refine Int.lt_trans ?_ h.far
    rw [show ((2 : Int) ^ 3000) = ((2 ^ 3000 : Nat) : Int) from (Int.natCast_pow 2 3000).symm]
    exact Int.ofNat_lt.mpr w
  obtain ⟨a, b, c⟩ := sg2_pell (t := t) h.pell hr
  show sg2 t r < 0 ↔ t * q + r * p < 0
  rcases (show 0 < t * q + r * p ∨ t * q + r * p < 0 ∨ t * q + r * p = 0 by omega) with y | y | y
  · rw [a y]; omega
  · rw [b y]; omega
  · obtain ⟨rfl, rfl⟩ := c y
    simp [sg2]
theorem Far.le {p q t r : Int} (h : Far p q) (w : Bw 3000 r) : sgn t r ≤ 0 ↔ Lq p q t r ≤ 0 := by
  have hr : (r.natAbs : Int) < q := by
    refine Int.lt_trans ?_ h.far
    rw [show ((2 : Int) ^ 3000) = ((2 ^ 3000 : Nat) : Int) from (Int.natCast_pow 2 3000).symm]
    exact Int.ofNat_lt.mpr w
  obtain ⟨a, b, c⟩ := sg2_pell (t := t) h.pell hr
  show sg2 t r ≤ 0 ↔ t * q + r * p ≤ 0
  rcases (show 0 < t * q + r * p ∨ t * q + r * p < 0 ∨ t * q + r * p = 0 by omega) with y | y | y
  · rw [a y]; omega
  · rw [b y]; omega
  · obtain ⟨rfl, rfl⟩ := c y
    simp [sg2]
theorem lt_mul {a b k : Int} (hk : 0 < k) : a * k < b * k ↔ a < b := ⟨fun h => Int.lt_of_mul_lt_mul_right h (by omega), fun h => Int.mul_lt_mul_of_pos_right h hk⟩
theorem le_mul {a b k : Int} (hk : 0 < k) : a * k ≤ b * k ↔ a ≤ b := ⟨fun h => Int.le_of_mul_le_mul_right h hk, fun h => Int.mul_le_mul_of_nonneg_right h (by omega)⟩
section
variable {p q : Int} (F : Far p q)
include F
theorem lt_bn {x y : Bn} (hx : Bn.ok x) (hy : Bn.ok y) : ltBn x y = true ↔ Lq p q x.t x.r * y.b < Lq p q y.t y.r * x.b := by
  unfold ltBn
  rw [decide_eq_true_iff, F.neg (by
    show Bw 3000 (x.r * y.b - y.r * x.b)
    exact (((hx.2.2.2.1.mul hy.2.2.2.2).sub (hy.2.2.2.1.mul hx.2.2.2.2))).mono (by decide))]
  rw [show Lq p q (minus.t x.t x.r x.b y.t y.r y.b) (minus.r x.t x.r x.b y.t y.r y.b) = Lq p q x.t x.r * y.b - Lq p q y.t y.r * x.b by unfold Lq minus; dsimp only; grind]
  omega
/-- no bound is below the least one of its direction -/
theorem leastI_spec {bs : List Bn} (ok : ∀ x ∈ bs, Bn.ok x) : ∀ n, n ≤ bs.length → ∀ d, d < 8 → ((leastI bs n).getD d none = none ∧ (∀ i x, i < n → bs[i]? = some x → x.d ≠ d) ∨ ∃ j y, (leastI bs n).getD d none = some j ∧ bs[j]? = some y ∧ y.d = d ∧ ∀ i x, i < n → bs[i]? = some x → x.d = d → Lq p q y.t y.r * x.b ≤ Lq p q x.t x.r * y.b)
  | 0, _, d, _ => .inl ⟨by
      show (List.replicate 8 none).getD d none = none
      rw [List.getD_eq_getElem?_getD, List.getElem?_replicate]
      split <;> rfl, fun i x h => by omega⟩
  | n + 1, hn, d, hd => by
    have ih := leastI_spec ok n (by omega) d hd
    have hx : bs[n]? = some bs[n] := List.getElem?_eq_getElem (by omega)
    have ox := ok _ (List.getElem_mem (show n < bs.length by omega))
    have st : leastI bs (n + 1) = leastStep bs (leastI bs n) n bs[n] := by rw [leastI, hx]
    rw [st]
    have l8 := leastI_len (bs := bs) (n := n)
    generalize bs[n]'(by omega) = x at *
    have old : ∀ {P : Nat → Bn → Prop}, (∀ i z, i < n → bs[i]? = some z → P i z) → P n x → ∀ i z, i < n + 1 → bs[i]? = some z → P i z := fun {P} h1 h2 i z hi hz => by
      rcases Nat.lt_or_ge i n with h | h
      · exact h1 i z h hz
      · obtain rfl : i = n := by omega
        rw [hx] at hz
        cases hz
        exact h2
    by_cases hxd : x.d = d
    · have sets : ((leastI bs n).set x.d (some n)).getD d none = some n := by
        rw [List.getD_eq_getElem?_getD, List.getElem?_set, if_pos hxd, if_pos (by omega)]
        rfl
      rcases ih with ⟨e, al⟩ | ⟨j, y, e, ej, yd, al⟩
      · have : leastStep bs (leastI bs n) n x = (leastI bs n).set x.d (some n) := by unfold leastStep; rw [hxd, e]
        rw [this]
        exact .inr ⟨n, x, sets, hx, hxd, old (P := fun _ z => z.d = d → _) (fun i z hi hz zd => absurd zd (al i z hi hz)) (fun _ => Int.le_refl _)⟩
      · have oy := ok y (List.mem_of_getElem? ej)
        have hl := lt_bn F ox oy
        by_cases hc : ltBn x y = true
        · have : leastStep bs (leastI bs n) n x = (leastI bs n).set x.d (some n) := by unfold leastStep; rw [hxd, e]; simp only [ej]; rw [if_pos hc]
          rw [this]
          have lt := hl.mp hc
          refine .inr ⟨n, x, sets, hx, hxd, old (P := fun _ z => z.d = d → _) (fun i z hi hz zd => ?_) (fun _ => Int.le_refl _)⟩
          have h1 := al i z hi hz zd
          have oz := ok z (List.mem_of_getElem? hz)
          have h2 := (lt_mul oz.2.1).mpr lt
          have h3 := (le_mul ox.2.1).mpr h1
          refine (le_mul oy.2.1).mp ?_
          have e1 : Lq p q x.t x.r * z.b * y.b = Lq p q x.t x.r * y.b * z.b := by grind
          have e2 : Lq p q z.t z.r * x.b * y.b = Lq p q z.t z.r * y.b * x.b := by grind
          have e3 : Lq p q y.t y.r * z.b * x.b = Lq p q y.t y.r * x.b * z.b := by grind
          omega
        · have : leastStep bs (leastI bs n) n x = leastI bs n := by unfold leastStep; rw [hxd, e]; simp only [ej]; rw [if_neg hc]
          rw [this]
          exact .inr ⟨j, y, e, ej, yd, old (P := fun _ z => z.d = d → _) al (fun _ => Int.not_lt.mp fun z => hc (hl.mpr z))⟩
    · have keep : (leastStep bs (leastI bs n) n x).getD d none = (leastI bs n).getD d none := by
        rcases leastStep_or (bs := bs) (os := leastI bs n) (i := n) (x := x) with e | e <;> rw [e]
        rw [List.getD_eq_getElem?_getD, List.getElem?_set, if_neg hxd, ← List.getD_eq_getElem?_getD]
      rw [keep]
      rcases ih with ⟨e, al⟩ | ⟨j, y, e, ej, yd, al⟩
      · exact .inl ⟨e, old (P := fun _ z => z.d ≠ d) al hxd⟩
      · exact .inr ⟨j, y, e, ej, yd, old (P := fun _ z => z.d = d → _) al (fun z => absurd z hxd)⟩
theorem leastN_spec {bs : List Bn} (ok : ∀ x ∈ bs, Bn.ok x) {d : Nat} (hd : d < 8) : ((leastN bs).getD d none = none ∧ ∀ x ∈ bs, x.d ≠ d) ∨ ∃ y, (leastN bs).getD d none = some y ∧ y ∈ bs ∧ y.d = d ∧ ∀ x ∈ bs, x.d = d → Lq p q y.t y.r * x.b ≤ Lq p q x.t x.r * y.b := by
  have g : (leastN bs).getD d none = ((leastI bs bs.length).getD d none).bind fun j => bs[j]? := by
    unfold leastN
    rw [List.getD_eq_getElem?_getD, List.getD_eq_getElem?_getD, List.getElem?_map]
    cases (leastI bs bs.length)[d]? <;> rfl
  rcases leastI_spec F ok bs.length (Nat.le_refl _) d hd with ⟨e, al⟩ | ⟨j, y, e, ej, yd, al⟩
  · refine .inl ⟨by rw [g, e]; rfl, fun x hx => ?_⟩
    obtain ⟨i, hi, rfl⟩ := List.getElem_of_mem hx
    exact al i _ hi (List.getElem?_eq_getElem hi)
  · refine .inr ⟨y, by rw [g, e]; exact ej, List.mem_of_getElem? ej, yd, fun x hx => ?_⟩
    obtain ⟨i, hi, rfl⟩ := List.getElem_of_mem hx
    exact al i _ hi (List.getElem?_eq_getElem hi)
/-! sums of parts -/
def sD (A C : Int) (d : Nat) : Int := vx d * A + vy d * C
def wX : List (Int × Int) → Int
  | [] => 0
  | x :: l => x.2 * vx x.1.toNat + wX l
def wY : List (Int × Int) → Int
  | [] => 0
  | x :: l => x.2 * vy x.1.toNat + wY l
omit F in
theorem psum_lt {A B C D : Int} {ps : List (Option (Int × Int))} (hs : ∀ (d : Nat) (pr : Int × Int), ps.getD d none = some pr → sD A C d * B < Lq p q pr.1 pr.2 * D) : ∀ {l : List (Int × Int)} {acc r : Int × Int}, (∀ x ∈ l, 0 < x.2) → psum ps l acc = some r → (wX l * A + wY l * C) * B + l.length ≤ (Lq p q r.1 r.2 - Lq p q acc.1 acc.2) * D
  | [], acc, r, _, e => by
    cases e
    simp [wX, wY]
  | x :: l, acc, r, hw, e => by
    rw [psum] at e
    cases hq : ps.getD x.1.toNat none with
    | none => rw [hq] at e; cases e
    | some pr =>
      rw [hq] at e
      have ih := psum_lt hs (fun y hm => hw y (List.mem_cons_of_mem _ hm)) e
      have h1 := hs _ _ hq
      have w1 : 0 < x.2 := hw x (List.mem_cons_self ..)
      have h2 := Int.mul_le_mul_of_nonneg_left (a := sD A C x.1.toNat * B + 1) (b := Lq p q pr.1 pr.2 * D) (c := x.2) (by omega) (by omega)
      have e1 : (wX (x :: l) * A + wY (x :: l) * C) * B = x.2 * (sD A C x.1.toNat * B) + (wX l * A + wY l * C) * B := by simp only [wX, wY, sD]; grind
      have e2 : (Lq p q r.1 r.2 - Lq p q (acc.1 + x.2 * pr.1) (acc.2 + x.2 * pr.2)) * D = (Lq p q r.1 r.2 - Lq p q acc.1 acc.2) * D - x.2 * (Lq p q pr.1 pr.2 * D) := by simp only [Lq]; grind
      have e3 : x.2 * (sD A C x.1.toNat * B + 1) = x.2 * (sD A C x.1.toNat * B) + x.2 := by grind
      rw [e1, List.length_cons]
      simp only at ih
      rw [e2] at ih
      generalize x.2 * (Lq p q pr.1 pr.2 * D) = m at *
      generalize x.2 * (sD A C x.1.toNat * B) = m' at *
      generalize (wX l * A + wY l * C) * B = m2 at *
      generalize (Lq p q r.1 r.2 - Lq p q acc.1 acc.2) * D = m3 at *
      omega
omit F in
theorem press_w {d : Nat} (h : d < 8) : (1, [((d : Int), 1)]) ∈ pressD d ∧ ∀ x ∈ pressD d, wX x.2 = x.1 * vx d ∧ wY x.2 = x.1 * vy d ∧ ∀ y ∈ x.2, 0 < y.2 := by
  refine d8_cases h (P := fun d => (1, [((d : Int), 1)]) ∈ pressD d ∧ ∀ x ∈ pressD d, wX x.2 = x.1 * vx d ∧ wY x.2 = x.1 * vy d ∧ ∀ y ∈ x.2, 0 < y.2) ?_ ?_ ?_ ?_ ?_ ?_ ?_ ?_ <;> decide
omit F in
theorem press_len {d : Nat} (h : d < 8) : ∀ x ∈ pressD d, 0 < x.2.length := by
  refine d8_cases h (P := fun d => ∀ x ∈ pressD d, 0 < x.2.length) ?_ ?_ ?_ ?_ ?_ ?_ ?_ ?_ <;> decide
omit F in
theorem bar_w : ∀ l ∈ barC, wX l = 0 ∧ wY l = 0 ∧ 0 < l.length ∧ ∀ y ∈ l, 0 < y.2 := by decide
theorem lstep_spec {ps : List (Option (Int × Int))} {acc : Option (Int × Int)} {x : Int × List (Int × Int)} (hp : PrsOk ps) (hw : x.1 = 1 ∨ x.1 = 2) (hl : PtsOk x.2) (ha : WO 992 acc) :
    (∀ c, lstep ps acc x = some c → acc = some c ∨ ∃ r, psum ps x.2 (0, 0) = some r ∧ c = (r.1 * (2 / x.1), r.2 * (2 / x.1))) ∧
    (∀ a, acc = some a → ∃ c, lstep ps acc x = some c ∧ Lq p q c.1 c.2 ≤ Lq p q a.1 a.2) ∧
    ∀ r, psum ps x.2 (0, 0) = some r → ∃ c, lstep ps acc x = some c ∧ Lq p q c.1 c.2 ≤ Lq p q (r.1 * (2 / x.1)) (r.2 * (2 / x.1)) := by
  cases e : psum ps x.2 (0, 0) with
  | none =>
    have : lstep ps acc x = acc := by unfold lstep; rw [e]
    rw [this]
    exact ⟨fun c h => .inl h, fun a h => ⟨a, h, Int.le_refl _⟩, fun r h => by cases h⟩
  | some r =>
    obtain ⟨b1, b2⟩ := psum_ok hp hl e
    have c1 := fac_bw hw b1
    have c2 := fac_bw hw b2
    cases acc with
    | none =>
      have : lstep ps none x = some (r.1 * (2 / x.1), r.2 * (2 / x.1)) := by unfold lstep; rw [e]
      rw [this]
      exact ⟨fun c h => by cases h; exact .inr ⟨r, rfl, rfl⟩, fun a h => (by cases h), fun r' h => by cases h; exact ⟨_, rfl, Int.le_refl _⟩⟩
    | some a =>
      obtain ⟨w1, w2⟩ := ha a rfl
      have fn := F.neg (t := r.1 * (2 / x.1) - a.1) (r := r.2 * (2 / x.1) - a.2) ((c2.sub w2).mono (by decide))
      have eL : Lq p q (r.1 * (2 / x.1) - a.1) (r.2 * (2 / x.1) - a.2) = Lq p q (r.1 * (2 / x.1)) (r.2 * (2 / x.1)) - Lq p q a.1 a.2 := by simp only [Lq]; grind
      rw [eL] at fn
      by_cases hh : sgn (r.1 * (2 / x.1) - a.1) (r.2 * (2 / x.1) - a.2) < 0
      · have : lstep ps (some a) x = some (r.1 * (2 / x.1), r.2 * (2 / x.1)) := by unfold lstep; rw [e]; exact if_pos hh
        rw [this]
        have := fn.mp hh
        exact ⟨fun c h => by cases h; exact .inr ⟨r, rfl, rfl⟩, fun a' h => by cases h; exact ⟨_, rfl, by show Lq p q (r.1 * (2 / x.1)) (r.2 * (2 / x.1)) ≤ _; omega⟩, fun r' h => by cases h; exact ⟨_, rfl, Int.le_refl _⟩⟩
      · have : lstep ps (some a) x = some a := by unfold lstep; rw [e]; exact if_neg hh
        rw [this]
        have := fun z => hh (fn.mpr z)
        have h3 : ¬ (Lq p q (r.1 * (2 / x.1)) (r.2 * (2 / x.1)) - Lq p q a.1 a.2 < 0) := this
        exact ⟨fun c h => .inl h, fun a' h => by cases h; exact ⟨_, rfl, Int.le_refl _⟩, fun r' h => by cases h; exact ⟨a, rfl, by omega⟩⟩
theorem lfold_spec {ps : List (Option (Int × Int))} (hp : PrsOk ps) : ∀ {l : List (Int × List (Int × Int))} {acc : Option (Int × Int)}, (∀ x ∈ l, (x.1 = 1 ∨ x.1 = 2) ∧ PtsOk x.2) → WO 992 acc →
    (∀ c, l.foldl (lstep ps) acc = some c → acc = some c ∨ ∃ x ∈ l, ∃ r, psum ps x.2 (0, 0) = some r ∧ c = (r.1 * (2 / x.1), r.2 * (2 / x.1))) ∧
    (∀ a, acc = some a → ∃ c, l.foldl (lstep ps) acc = some c ∧ Lq p q c.1 c.2 ≤ Lq p q a.1 a.2) ∧
    ∀ x ∈ l, ∀ r, psum ps x.2 (0, 0) = some r → ∃ c, l.foldl (lstep ps) acc = some c ∧ Lq p q c.1 c.2 ≤ Lq p q (r.1 * (2 / x.1)) (r.2 * (2 / x.1))
  | [], acc, _, _ => ⟨fun c h => .inl h, fun a h => ⟨a, h, Int.le_refl _⟩, fun x h => by cases h⟩
  | x :: l, acc, ho, ha => by
    obtain ⟨hw, hl⟩ := ho x (List.mem_cons_self ..)
    obtain ⟨s1, s2, s3⟩ := lstep_spec F hp hw hl ha
    obtain ⟨i1, i2, i3⟩ := lfold_spec hp (l := l) (acc := lstep ps acc x) (fun y hm => ho y (List.mem_cons_of_mem _ hm)) (lstep_bw hp hw hl ha)
    rw [List.foldl_cons]
    refine ⟨fun c h => ?_, fun a h => ?_, fun y hy r e => ?_⟩
    · rcases i1 c h with h | ⟨y, hy, r, e, hc⟩
      · rcases s1 c h with h | ⟨r, e, hc⟩
        · exact .inl h
        · exact .inr ⟨x, List.mem_cons_self .., r, e, hc⟩
      · exact .inr ⟨y, List.mem_cons_of_mem _ hy, r, e, hc⟩
    · obtain ⟨c, e, hc⟩ := s2 a h
      obtain ⟨c', e', hc'⟩ := i2 c e
      exact ⟨c', e', Int.le_trans hc' hc⟩
    · rcases List.mem_cons.mp hy with rfl | hy
      · obtain ⟨c, e, hc⟩ := s3 r e
        obtain ⟨c', e', hc'⟩ := i2 c e
        exact ⟨c', e', Int.le_trans hc' hc⟩
      · exact i3 y hy r e
/-- all bounds let, told by the least ones -/
theorem all_ps {A C D : Int} {bs : List Bn} (ok : ∀ x ∈ bs, Bn.ok x) (hD : 0 < D) : (∀ x ∈ bs, sD A C x.d * x.b < Lq p q x.t x.r * D) ↔ ∀ (d : Nat) (pr : Int × Int), ((leastN bs).map (prO (comB (leastN bs) 1))).getD d none = some pr → sD A C d * comB (leastN bs) 1 < Lq p q pr.1 pr.2 * D := by
  obtain ⟨n8, okO⟩ := leastN_ok ok
  obtain ⟨B1, -, B4⟩ := comB_ok okO (B := 1) (by decide)
  have gd : ∀ d, ((leastN bs).map (prO (comB (leastN bs) 1))).getD d none = prO (comB (leastN bs) 1) ((leastN bs).getD d none) := fun d => by
    rw [List.getD_eq_getElem?_getD, List.getD_eq_getElem?_getD, List.getElem?_map]
    cases (leastN bs)[d]? <;> rfl
  have hk : ∀ (d : Nat) y, (leastN bs).getD d none = some y → d < 8 ∧ ∃ k, 0 < k ∧ comB (leastN bs) 1 / y.b = k ∧ comB (leastN bs) 1 = y.b * k := fun d y e => by
    have mm : some y ∈ leastN bs := by
      rw [List.getD_eq_getElem?_getD] at e
      cases hx : (leastN bs)[d]? with
      | none => rw [hx] at e; cases e
      | some o => rw [hx] at e; rw [← show o = some y from e]; exact List.mem_of_getElem? hx
    have yb := (okO _ mm y rfl).2.1
    obtain ⟨k, hk⟩ := B4 y mm
    refine ⟨?_, k, ?_, ?_, hk⟩
    · rcases Nat.lt_or_ge d 8 with h | h
      · exact h
      · rw [List.getD_eq_getElem?_getD, List.getElem?_eq_none (by omega)] at e
        cases e
    · rcases Int.lt_or_le 0 k with h | h
      · exact h
      · have := Int.mul_nonpos_of_nonneg_of_nonpos (show 0 ≤ y.b by omega) h
        omega
    · rw [hk, Int.mul_ediv_cancel_left _ (by omega)]
  constructor
  · intro al d pr e
    rw [gd] at e
    cases hy : (leastN bs).getD d none with
    | none => rw [hy] at e; cases e
    | some y =>
      rw [hy] at e
      cases e
      obtain ⟨d8, k, k0, ek, eB⟩ := hk d y hy
      rcases leastN_spec F ok d8 with ⟨e', _⟩ | ⟨y', e', hm, yd, -⟩
      · rw [hy] at e'; cases e'
      · rw [hy] at e'
        cases e'
        have := (lt_mul k0).mpr (al y hm)
        show sD A C d * comB (leastN bs) 1 < Lq p q (y.t * (comB (leastN bs) 1 / y.b)) (y.r * (comB (leastN bs) 1 / y.b)) * D
        rw [ek, eB]
        rw [yd] at this
        rw [show sD A C d * (y.b * k) = sD A C d * y.b * k by grind, show Lq p q (y.t * k) (y.r * k) * D = Lq p q y.t y.r * D * k by simp only [Lq]; grind]
        exact this
  · intro al x hx
    have ox := ok x hx
    rcases leastN_spec F ok ox.1 with ⟨_, h⟩ | ⟨y, e', hm, yd, h⟩
    · exact absurd rfl (h x hx)
    · obtain ⟨d8, k, k0, ek, eB⟩ := hk x.d y e'
      have oy := ok y hm
      have h1 := al x.d _ (by rw [gd, e']; rfl)
      replace h1 : sD A C x.d * comB (leastN bs) 1 < Lq p q (y.t * (comB (leastN bs) 1 / y.b)) (y.r * (comB (leastN bs) 1 / y.b)) * D := h1
      rw [ek, eB, show sD A C x.d * (y.b * k) = sD A C x.d * y.b * k by grind, show Lq p q (y.t * k) (y.r * k) * D = Lq p q y.t y.r * D * k by simp only [Lq]; grind, lt_mul k0] at h1
      have h2 := (lt_mul ox.2.1).mpr h1
      have h3 := (le_mul hD).mpr (h x hx rfl)
      refine (lt_mul oy.2.1).mp ?_
      have e1 : sD A C x.d * x.b * y.b = sD A C x.d * y.b * x.b := by grind
      have e2 : Lq p q x.t x.r * D * y.b = Lq p q x.t x.r * y.b * D := by grind
      have e3 : Lq p q y.t y.r * D * x.b = Lq p q y.t y.r * x.b * D := by grind
      omega
omit F in
theorem psum_some {ps : List (Option (Int × Int))} {d : Nat} {pr : Int × Int} (e : ps.getD d none = some pr) : psum ps [((d : Int), 1)] (0, 0) = some (0 + 1 * pr.1, 0 + 1 * pr.2) := by
  rw [psum, Int.toNat_natCast, e]
  rfl
/-- barred: some bound lets not -/
theorem barred_all {A C D : Int} {bs : List Bn} (ok : BsOk bs) (hD : 0 < D) (hb : barP bs = true) : ¬ ∀ x ∈ bs, sD A C x.d * x.b < Lq p q x.t x.r * D := by
  rw [all_ps F ok.1 hD]
  intro al
  obtain ⟨n8, okO⟩ := leastN_ok ok.1
  have pk := ok.2.2
  obtain ⟨l, hl, hb⟩ := List.any_eq_true.mp hb
  obtain ⟨wx, wy, l0, lw⟩ := bar_w l hl
  unfold barT at hb
  split at hb
  · cases hb
  · rename_i r e
    have h1 := psum_lt (A := A) (C := C) (D := D) al lw e
    have h2 := (F.le ((psum_ok pk (barC_ok l hl) e).2.mono (by decide))).mp (of_decide_eq_true hb)
    have h3 := Int.mul_nonpos_of_nonpos_of_nonneg h2 (show 0 ≤ D by omega)
    rw [wx, wy, show Lq p q (0, 0).1 (0, 0).2 = 0 by simp [Lq]] at h1
    simp only [Int.zero_mul, Int.add_zero, Int.sub_zero, Int.zero_add] at h1
    omega
/-- what the tightened bounds let -/
theorem tight_all {A C D : Int} {bs : List Bn} (ok : BsOk bs) (hD : 0 < D) : (∀ (d : Nat) (c : Int × Int), d < 8 → lprO ((leastN bs).map (prO (comB (leastN bs) 1))) d = some c → sD A C d * (2 * comB (leastN bs) 1) < Lq p q c.1 c.2 * D) ↔ ∀ x ∈ bs, sD A C x.d * x.b < Lq p q x.t x.r * D := by
  rw [all_ps F ok.1 hD]
  obtain ⟨n8, okO⟩ := leastN_ok ok.1
  have pk := ok.2.2
  have l8 : ((leastN bs).map (prO (comB (leastN bs) 1))).length = 8 := by rw [List.length_map, n8]
  generalize (leastN bs).map (prO (comB (leastN bs) 1)) = ps at *
  generalize comB (leastN bs) 1 = B at *
  have sp := fun {d : Nat} (hd : d < 8) => lfold_spec F pk (l := pressD d) (acc := none) (pressD_ok hd).2 (fun r e => by cases e)
  constructor
  · intro al d pr e
    have d8 : d < 8 := by
      rcases Nat.lt_or_ge d 8 with h | h
      · exact h
      · rw [List.getD_eq_getElem?_getD, List.getElem?_eq_none (by omega)] at e
        cases e
    obtain ⟨c, ec, hc⟩ := (sp d8).2.2 _ (press_w d8).1 _ (psum_some e)
    have h1 := al d c d8 ec
    have h2 : Lq p q c.1 c.2 * D ≤ Lq p q ((0 + 1 * pr.1) * (2 / 1)) ((0 + 1 * pr.2) * (2 / 1)) * D := (le_mul hD).mpr hc
    rw [show Lq p q ((0 + 1 * pr.1) * (2 / 1)) ((0 + 1 * pr.2) * (2 / 1)) * D = 2 * (Lq p q pr.1 pr.2 * D) by rw [show (2 : Int) / 1 = 2 from rfl]; simp only [Lq]; grind] at h2
    rw [show sD A C d * (2 * B) = 2 * (sD A C d * B) by grind] at h1
    omega
  · intro al d c d8 ec
    rcases (sp d8).1 c ec with h | ⟨x, hx, r, er, rfl⟩
    · cases h
    obtain ⟨wx, wy, lw⟩ := (press_w d8).2 x hx
    obtain ⟨hw, pt⟩ := (pressD_ok d8).2 x hx
    have h1 := psum_lt (A := A) (C := C) (D := D) al lw er
    have l0 : 0 < x.2.length ∨ x.2.length = 0 := by omega
    rw [wx, wy, show Lq p q (0, 0).1 (0, 0).2 = 0 by simp [Lq]] at h1
    rw [show (x.1 * vx d * A + x.1 * vy d * C) * B = x.1 * (sD A C d * B) by simp only [sD]; grind, Int.sub_zero] at h1
    have lp : 0 < x.2.length := press_len d8 x hx
    show sD A C d * (2 * B) < Lq p q (r.1 * (2 / x.1)) (r.2 * (2 / x.1)) * D
    rw [show sD A C d * (2 * B) = 2 * (sD A C d * B) by grind, show Lq p q (r.1 * (2 / x.1)) (r.2 * (2 / x.1)) * D = (2 / x.1) * (Lq p q r.1 r.2 * D) by simp only [Lq]; grind]
    rcases hw with h | h
    · rw [h] at h1 ⊢
      rw [show (2 : Int) / 1 = 2 from rfl]
      omega
    · rw [h] at h1 ⊢
      rw [show (2 : Int) / 2 = 1 from rfl]
      omega
omit F in
theorem pl_L (x y : Nu) : Lq p q (plN x y).t (plN x y).r * (x.b * y.b) = (Lq p q x.t x.r * y.b + Lq p q y.t y.r * x.b) * (plN x y).b := by
  unfold plN
  split
  · rename_i e
    simp only [Lq]
    rw [e]
    grind
  · simp only [Lq]
    grind
theorem cm_L {x y : Nu} (ox : Nu.ok 990 990 x) (oy : Nu.ok 990 990 y) : cmN x y < 0 ↔ Lq p q x.t x.r * y.b < Lq p q y.t y.r * x.b := by
  have os : Nu.ok 991 990 (scN (-1) y) := scN_ok oy (by unfold Bw; decide)
  have ol := plN_ok ox os
  have e := pl_L (p := p) (q := q) x (scN (-1) y)
  have b0 : 0 < x.b * (scN (-1) y).b := Int.mul_pos ox.1 oy.1
  show sgn _ _ < 0 ↔ _
  rw [F.neg (ol.2.2.1.mono (by decide)), ← lt_mul b0, e, Int.zero_mul]
  rw [show (0 : Int) = 0 * (plN x (scN (-1) y)).b from (Int.zero_mul _).symm, lt_mul ol.1]
  rw [show Lq p q (scN (-1) y).t (scN (-1) y).r = - Lq p q y.t y.r by simp only [Lq, scN]; grind]
  show Lq p q x.t x.r * y.b + -Lq p q y.t y.r * x.b < 0 ↔ _
  rw [Int.neg_mul]
  omega
theorem lets_L {d : Nat} (hd : d < 8) {z1 z2 n : Nu} (o1 : Nu.ok 300 100 z1) (o2 : Nu.ok 300 100 z2) (on : Nu.ok 200 50 n) : cmN (alN d z1 z2) n < 0 ↔ sD (Lq p q z1.t z1.r * z2.b) (Lq p q z2.t z2.r * z1.b) d * n.b < Lq p q n.t n.r * (z1.b * z2.b) := by
  obtain ⟨v1, v2⟩ := v_bw hd
  have oa := plN_ok (scN_ok o1 v1) (scN_ok o2 v2)
  have e := pl_L (p := p) (q := q) (scN (vx d) z1) (scN (vy d) z2)
  rw [cm_L F (x := alN d z1 z2) (oa.mono (by decide) (by decide)) (on.mono (by decide) (by decide))]
  have D0 : 0 < z1.b * z2.b := Int.mul_pos o1.1 o2.1
  have a0 : 0 < (alN d z1 z2).b := oa.1
  replace e : Lq p q (alN d z1 z2).t (alN d z1 z2).r * (z1.b * z2.b) = (Lq p q (vx d * z1.t) (vx d * z1.r) * z2.b + Lq p q (vy d * z2.t) (vy d * z2.r) * z1.b) * (alN d z1 z2).b := e
  rw [show Lq p q (vx d * z1.t) (vx d * z1.r) * z2.b + Lq p q (vy d * z2.t) (vy d * z2.r) * z1.b = sD (Lq p q z1.t z1.r * z2.b) (Lq p q z2.t z2.r * z1.b) d by simp only [Lq, sD]; grind] at e
  generalize sD (Lq p q z1.t z1.r * z2.b) (Lq p q z2.t z2.r * z1.b) d = s at *
  generalize Lq p q (alN d z1 z2).t (alN d z1 z2).r = a at *
  generalize (alN d z1 z2).b = ab at *
  generalize z1.b * z2.b = D at *
  rw [← lt_mul D0, show a * n.b * D = a * D * n.b by grind, e, show s * ab * n.b = s * n.b * ab by grind, show Lq p q n.t n.r * ab * D = Lq p q n.t n.r * D * ab by grind, lt_mul a0]
theorem low_L {t r b : Int} (hb : 0 < b) : ∃ s : Int, 0 < s ∧ Lq p q t r = Lq p q (lowT t r b) (lowR t r b) * s ∧ b = lowB t r b * s := by
  obtain ⟨s, hs, e1, e2, e3⟩ := low_pos (t := t) (r := r) hb
  refine ⟨s, hs, ?_, e3⟩
  have : Lq p q (lowT t r b * s) (lowR t r b * s) = Lq p q (lowT t r b) (lowR t r b) * s := by simp only [Lq]; grind
  rw [← e1, ← e2] at this
  exact this
/-- a point's own numbers in lowest terms -/
def letN (z : Nu × Nu) : Bn → Bool := letB (lowT z.1.t z.1.r z.1.b) (lowR z.1.t z.1.r z.1.b) (lowB z.1.t z.1.r z.1.b) (lowT z.2.t z.2.r z.2.b) (lowR z.2.t z.2.r z.2.b) (lowB z.2.t z.2.r z.2.b)
theorem letB_L {d : Nat} (hd : d < 8) {z : Nu × Nu} (o1 : Nu.ok 300 100 z.1) (o2 : Nu.ok 300 100 z.2) {t r b : Int} (hb : 0 < b) (wr : Bw 992 r) (wb : Bw 540 b) : letN z (lowBn d t r b) = true ↔ sD (Lq p q z.1.t z.1.r * z.2.b) (Lq p q z.2.t z.2.r * z.1.b) d * b < Lq p q t r * (z.1.b * z.2.b) := by
  obtain ⟨z1, z2⟩ := z
  obtain ⟨v1, v2⟩ := v_bw hd
  obtain ⟨s1, p1, l1, b1⟩ := low_L F (t := z1.t) (r := z1.r) o1.1
  obtain ⟨s2, p2, l2, b2⟩ := low_L F (t := z2.t) (r := z2.r) o2.1
  have m1 := Sm.low (t := z1.t) (r := z1.r) (b := z1.b) (Int.ne_of_gt o1.1) (o1.2.1.mono (by decide)) (o1.2.2.1.mono (by decide)) (o1.2.2.2.mono (by decide))
  have m2 := Sm.low (t := z2.t) (r := z2.r) (b := z2.b) (Int.ne_of_gt o2.1) (o2.2.1.mono (by decide)) (o2.2.2.1.mono (by decide)) (o2.2.2.2.mono (by decide))
  have q1 := m1.pos
  have q2 := m2.pos
  unfold letN letB lowBn
  dsimp only at *
  rw [decide_eq_true_iff, l1, l2]
  generalize lowT z1.t z1.r z1.b = t1 at *
  generalize lowR z1.t z1.r z1.b = r1 at *
  generalize hb1 : lowB z1.t z1.r z1.b = c1 at *
  generalize lowT z2.t z2.r z2.b = t2 at *
  generalize lowR z2.t z2.r z2.b = r2 at *
  generalize hb2 : lowB z2.t z2.r z2.b = c2 at *
  have w : Bw 3000 (minus.r (twT d t1 c1 t2 c2) (twT d r1 c1 r2 c2) (c1 * c2) t r b) := by
    have h1 : Bw 2003 (twT d r1 c1 r2 c2) := (((v1.mul m1.hr).mul m2.hb).add ((v2.mul m2.hr).mul m1.hb)).mono (by decide)
    show Bw 3000 (twT d r1 c1 r2 c2 * b - r * (c1 * c2))
    exact ((h1.mul wb).sub (wr.mul (m1.hb.mul m2.hb))).mono (by decide)
  rw [minus_sgn (Int.mul_pos q1 q2) hb, F.neg w]
  rw [show Lq p q (minus.t (twT d t1 c1 t2 c2) (twT d r1 c1 r2 c2) (c1 * c2) t r b) (minus.r (twT d t1 c1 t2 c2) (twT d r1 c1 r2 c2) (c1 * c2) t r b) = sD (Lq p q t1 r1 * c2) (Lq p q t2 r2 * c1) d * b - Lq p q t r * (c1 * c2) by simp only [Lq, sD, minus, twT]; grind]
  rw [b1, b2, ← lt_mul (a := sD (Lq p q t1 r1 * s1 * (c2 * s2)) (Lq p q t2 r2 * s2 * (c1 * s1)) d * b) (k := 1) (by decide)]
  have pp := Int.mul_pos p1 p2
  rw [show sD (Lq p q t1 r1 * s1 * (c2 * s2)) (Lq p q t2 r2 * s2 * (c1 * s1)) d * b * 1 = sD (Lq p q t1 r1 * c2) (Lq p q t2 r2 * c1) d * b * (s1 * s2) by simp only [sD]; grind, show Lq p q t r * (c1 * s1 * (c2 * s2)) * 1 = Lq p q t r * (c1 * c2) * (s1 * s2) by grind, lt_mul pp]
  omega
end
theorem bw_lows {n m : Nat} {t r b : Int} (hb : 0 < b) (w1 : Bw n t) (w2 : Bw n r) (w3 : Bw m b) : Bw n (lowT t r b) ∧ Bw n (lowR t r b) ∧ Bw m (lowB t r b) := by
  obtain ⟨s, hs, e1, e2, e3⟩ := (low_is (t := t) (r := r) (Int.ne_of_gt hb)).s
  exact ⟨bw_div w1 e1 hs, bw_div w2 e2 hs, bw_div w3 e3 hs⟩
theorem lowN_ok {x : Bn} (o : rwOk x) : Bn.ok60 (lowN x) := by
  obtain ⟨a, b, c⟩ := bw_lows (t := x.t) (r := x.r) (b := x.b) o.2.1 o.2.2.1 o.2.2.2.1 o.2.2.2.2
  exact ⟨o.1, (low_is (t := x.t) (r := x.r) (Int.ne_of_gt o.2.1)).pos, a.mono (by decide), b.mono (by decide), c.mono (by decide)⟩
/-- a piece has what all bounds let -/
theorem has_all {xs : List Bn} (ok : ∀ x ∈ xs, rwOk x) {z : Nu × Nu} (o1 : Nu.ok 300 100 z.1) (o2 : Nu.ok 300 100 z.2) : (rowsP (xs.map lowN)).all (letN z) = xs.all fun x => decide (cmN (alN x.d z.1 z.2) (nuB x) < 0) := by
  obtain ⟨p, q, F⟩ := far_ex
  have D0 : 0 < z.1.b * z.2.b := Int.mul_pos o1.1 o2.1
  have okL : BsOk (xs.map lowN) := bsOk60 fun x hx => by
    obtain ⟨y, hy, rfl⟩ := List.mem_map.mp hx
    exact lowN_ok (ok y hy)
  have raw : (∀ x ∈ xs.map lowN, sD (Lq p q z.1.t z.1.r * z.2.b) (Lq p q z.2.t z.2.r * z.1.b) x.d * x.b < Lq p q x.t x.r * (z.1.b * z.2.b)) ↔ ∀ x ∈ xs, cmN (alN x.d z.1 z.2) (nuB x) < 0 := by
    have one : ∀ x ∈ xs, (sD (Lq p q z.1.t z.1.r * z.2.b) (Lq p q z.2.t z.2.r * z.1.b) x.d * lowB x.t x.r x.b < Lq p q (lowT x.t x.r x.b) (lowR x.t x.r x.b) * (z.1.b * z.2.b)) ↔ cmN (alN x.d z.1 z.2) (nuB x) < 0 := fun x hx => by
      have o := ok x hx
      rw [lets_L F o.1 o1 o2 o.2]
      obtain ⟨s, hs, e1, e2⟩ := low_L F (t := x.t) (r := x.r) (b := x.b) o.2.1
      show _ ↔ _ * x.b < Lq p q x.t x.r * _
      generalize sD (Lq p q z.1.t z.1.r * z.2.b) (Lq p q z.2.t z.2.r * z.1.b) x.d = m at *
      rw [e1]
      generalize Lq p q (lowT x.t x.r x.b) (lowR x.t x.r x.b) = L at *
      generalize lowB x.t x.r x.b = c at *
      rw [e2, show m * (c * s) = m * c * s by grind, show L * s * (z.1.b * z.2.b) = L * (z.1.b * z.2.b) * s by grind, lt_mul hs]
    constructor
    · exact fun h x hx => (one x hx).mp (h (lowN x) (List.mem_map_of_mem hx))
    · intro h x hx
      obtain ⟨y, hy, rfl⟩ := List.mem_map.mp hx
      exact (one y hy).mpr (h y hy)
  rw [Bool.eq_iff_iff, List.all_eq_true, List.all_eq_true]
  simp only [decide_eq_true_eq]
  rw [← raw]
  obtain ⟨B1, B2⟩ := comB_leastN okL
  cases hb : barP (xs.map lowN) with
  | true =>
    refine iff_of_false ?_ (barred_all F okL D0 hb)
    rw [show rowsP (xs.map lowN) = [⟨0, 0, 0, 1⟩, ⟨4, 0, 0, 1⟩] from if_pos hb]
    intro h
    have l0 : ∀ d : Nat, (⟨d, 0, 0, 1⟩ : Bn) = lowBn d 0 0 1 := fun d => by
      obtain ⟨e1, e2, e3⟩ := low1 0
      unfold lowBn
      rw [e1, e2, e3]
    have h0 := h ⟨0, 0, 0, 1⟩ (by simp)
    have h4 := h ⟨4, 0, 0, 1⟩ (by simp)
    rw [l0, letB_L F (by decide) o1 o2 (by decide) (Bw.zero.mono (by decide)) (Bw.one.mono (by decide))] at h0 h4
    have e0 : vx 0 = 1 ∧ vy 0 = 0 := ⟨rfl, rfl⟩
    have e4 : vx 4 = -1 ∧ vy 4 = 0 := ⟨rfl, rfl⟩
    simp only [sD, e0.1, e0.2, e4.1, e4.2, Lq] at h0 h4
    omega
  | false =>
    rw [← tight_all F okL D0, rowsP_eq hb]
    have ps := fun {d : Nat} (hd : d < 8) (c : Int × Int) e => lprO_bw okL.2.2 hd c e
    constructor
    · intro h d c d8 e
      have m : lowBn d c.1 c.2 (2 * comB (leastN (xs.map lowN)) 1) ∈ rowsI (xs.map lowN) 8 := by
        unfold rowsI
        exact List.mem_filterMap.mpr ⟨d, List.mem_range.mpr d8, by unfold rowsF; rw [e]; rfl⟩
      exact (letB_L F d8 o1 o2 (by omega) (ps d8 c e).2 (((show Bw 2 2 by unfold Bw; decide).mul B2).mono (by decide))).mp (h _ m)
    · intro h x hx
      unfold rowsI at hx
      obtain ⟨d, hd, e⟩ := List.mem_filterMap.mp hx
      have d8 := List.mem_range.mp hd
      unfold rowsF at e
      obtain ⟨c, ec, rfl⟩ := Option.map_eq_some_iff.mp e
      exact (letB_L F d8 o1 o2 (by omega) (ps d8 c ec).2 (((show Bw 2 2 by unfold Bw; decide).mul B2).mono (by decide))).mpr (h d c d8 ec)
structure I15 (Z : Zs) (H : Hp) (p c rl hl : Addr) (ws : List V) (xs : List Bn) (zs : List V) : Prop where
  st : St4 H p c
  rp : rl ≠ p
  er : H rl = some (.lst ws)
  lr : LsAt RwAt H ws xs
  hp : hl ≠ p
  hr : hl ≠ rl
  eh : H hl = some (.lst zs)
  bh : BnsAt Z.c_Root H zs (xs.map lowN)
theorem I15.x {Z : Zs} {H H' : Hp} {p c rl hl : Addr} {ws : List V} {xs : List Bn} {zs : List V} (h : I15 Z H p c rl hl ws xs zs) (x : SameX p H H') (s : St4 H' p c) : I15 Z H' p c rl hl ws xs zs :=
  ⟨s, h.rp, x _ _ h.rp h.er, h.lr.imp fun _ _ r => r.kps (h.st.kps x), h.hp, h.hr, x _ _ h.hp h.eh, h.bh.kps (h.st.kps x)⟩
theorem I15.same {Z : Zs} {H H' : Hp} {p c rl hl : Addr} {ws : List V} {xs : List Bn} {zs : List V} (h : I15 Z H p c rl hl ws xs zs) (x : Same H H') : I15 Z H' p c rl hl ws xs zs := h.x (Same.x x) (h.st.same x)
theorem LsAt.take {α : Type} {R : Hp → V → α → Prop} {H : Hp} {zs : List V} {ns : List α} (h : LsAt R H zs ns) (n : Nat) : LsAt R H (zs.take n) (ns.take n) := by
  refine ⟨by rw [List.length_take, List.length_take, h.1], fun i v x h1 h2 => ?_⟩
  rw [List.getElem?_take] at h1 h2
  split at h1
  · rename_i hi
    rw [if_pos hi] at h2
    exact h.2 i v x h1 h2
  · cases h1
theorem cut1 {ws : List V} : cutV ws none (some 1) = ws.take 1 := by
  unfold cutV
  rw [HT.sIx_none, show (some (1 : Int)) = some ((1 : Nat) : Int) from rfl, HT.sIx_nat]
  cases ws <;> simp
theorem dp_bools {K : PySem.W.Frag} {H : Hp} : ∀ bs : List Bool, DpAll K H (bs.map V.bl) (bs.map PyData.bool)
  | [] => .nil
  | b :: bs => .cons (.bl b) (dp_bools bs)
theorem shaped_bools (ns : List Bool) : SeqAt.shaped (.list (ns.map PyData.bool)) = true := by
  have h1 : ∀ r : List Bool, PyData.canLayAll0 (r.map PyData.bool) = true := fun r => by
    induction r with
    | nil => rfl
    | cons c r ih => simp only [List.map_cons, PyData.canLayAll0, PyData.canLay0, ih, Bool.and_self]
  have h2 : ∀ r : List Bool, PyData.depthAll (r.map PyData.bool) = 0 := fun r => by
    induction r with
    | nil => rfl
    | cons c r ih => simp only [List.map_cons, PyData.depthAll, PyData.depth, ih]; rfl
  simp only [SeqAt.shaped, PyData.canLay0, h1, PyData.depth, h2]
  decide
theorem w_eqBools {K : PySem.W.Frag} {H : Hp} {Q : VK} {a b : Addr} {bs : List Bool} (h1 : H a = some (.lst (bs.map V.bl))) (h2 : H b = some (.lst (bs.map V.bl))) (q : Q (.bl true) H) : rEqD K (.ref a) (.ref b) H Q :=
  ⟨.list (bs.map .bool), .list (bs.map .bool), .lst (SqL.of h1) (dp_bools bs), .lst (SqL.of h2) (dp_bools bs), shaped_bools _, shaped_bools _, by rw [SeqAt.eqv_refl _ (SeqAt.canLay_of_shaped (shaped_bools bs))]; exact q⟩
theorem w_neInts {K : PySem.W.Frag} {H : Hp} {Q : VK} {a b : Addr} {bs : List Int} (h1 : H a = some (.lst (bs.map V.int))) (h2 : H b = some (.lst (bs.map V.int))) (q : Q (.bl false) H) : rNeD K (.ref a) (.ref b) H Q :=
  ⟨.list (bs.map .int), .list (bs.map .int), .lst (SqL.of h1) (dp_ints bs), .lst (SqL.of h2) (dp_ints bs), shaped_intsL _, shaped_intsL _, by rw [SeqAt.eqv_refl _ (SeqAt.canLay_of_shaped (shaped_intsL bs))]; exact q⟩
def okP (z : Nu × Nu) : Prop := Nu.ok 300 100 z.1 ∧ Nu.ok 300 100 z.2
def gB (xs : List Bn) (z : Nu × Nu) : Bool := xs.all fun x => decide (cmN (alN x.d z.1 z.2) (nuB x) < 0)
/-- rows of a piece, of a point's way -/
def oppD (d : Nat) : Nat := (d + 4) % 8
def negBn (x : Bn) : Bn := lowBn (oppD x.d) (-x.t) (-x.r) x.b
theorem oppD_lt {d : Nat} : oppD d < 8 := Nat.mod_lt _ (by decide)
theorem oppD_int {d : Nat} : ((d : Int) + 4) % 8 = ((oppD d : Nat) : Int) := by
  unfold oppD
  omega
theorem un_or {X : Cx} {f : Value → Sem Value} {r r' : V → Hp → VK → Prop} (h : UnR X f r) (h' : UnR X f r') : UnR X f (fun x H Q => r x H Q ∨ r' x H Q) := by
  intro pins s σ H x v Q I rx q
  rcases q with q | q
  · exact h pins s σ H x v Q I rx q
  · exact h' pins s σ H x v Q I rx q
/-- led by a point (t + r * root) / b, (t' + r' * root) / b' -/
def ledBn (t r b t' r' b' : Int) (x : Bn) : Bn :=
  lowBn x.d (plus.t (lowT (twT x.d t b t' b') (twT x.d r b r' b') (b * b')) (lowR (twT x.d t b t' b') (twT x.d r b r' b') (b * b')) (lowB (twT x.d t b t' b') (twT x.d r b r' b') (b * b')) x.t x.r x.b)
    (plus.r (lowT (twT x.d t b t' b') (twT x.d r b r' b') (b * b')) (lowR (twT x.d t b t' b') (twT x.d r b r' b') (b * b')) (lowB (twT x.d t b t' b') (twT x.d r b r' b') (b * b')) x.t x.r x.b)
    (plus.b (lowT (twT x.d t b t' b') (twT x.d r b r' b') (b * b')) (lowR (twT x.d t b t' b') (twT x.d r b r' b') (b * b')) (lowB (twT x.d t b t' b') (twT x.d r b r' b') (b * b')) x.t x.r x.b)
/-- times a number -/
def groBn (d : Nat) (t r b : Int) (x : Bn) : Bn := lowBn d (times.t t r b x.t x.r x.b) (times.r t r b x.t x.r x.b) (times.b t r b x.t x.r x.b)
theorem lowBn_sm {d : Nat} {t r b : Int} (hb : b ≠ 0) (ok : Bn.ok (lowBn d t r b)) : Sm (lowT t r b) (lowR t r b) (lowB t r b) := ⟨ok.2.2.1, ok.2.2.2.1, ok.2.2.2.2, (low_is (t := t) (r := r) hb).self⟩
def growL (t r b : Int) (xs : List Bn) : List Bn := if sgn t r < 0 then xs.map fun x => groBn (oppD x.d) (lowT (-t) (-r) b) (lowR (-t) (-r) b) (lowB (-t) (-r) b) x else xs.map fun x => groBn x.d t r b x
/-! what lists of bounds let, list by list -/
def letL (p q A C D : Int) (xs : List Bn) : Prop := ∀ x ∈ xs, sD A C x.d * x.b < Lq p q x.t x.r * D
theorem letL_app {p q A C D : Int} {xs ys : List Bn} : letL p q A C D (xs ++ ys) ↔ letL p q A C D xs ∧ letL p q A C D ys := by
  unfold letL
  constructor
  · exact fun h => ⟨fun x hx => h x (List.mem_append_left _ hx), fun x hx => h x (List.mem_append_right _ hx)⟩
  · rintro ⟨h1, h2⟩ x hx
    rcases List.mem_append.mp hx with h | h
    · exact h1 x h
    · exact h2 x h
section
variable {p q : Int} (F : Far p q)
include F
theorem low_lt {s D t r b : Int} (hb : 0 < b) : s * lowB t r b < Lq p q (lowT t r b) (lowR t r b) * D ↔ s * b < Lq p q t r * D := by
  obtain ⟨k, hk, e1, e2⟩ := low_L F (t := t) (r := r) (b := b) hb
  rw [e1]
  generalize Lq p q (lowT t r b) (lowR t r b) = L at *
  generalize lowB t r b = c at *
  rw [e2, show s * (c * k) = s * c * k by grind, show L * k * D = L * D * k by grind, lt_mul hk]
/-- the rows of a piece let what its bounds let -/
theorem rows_L {A C D : Int} {bs : List Bn} (ok : BsOk bs) (hD : 0 < D) : letL p q A C D (rowsP bs) ↔ letL p q A C D bs := by
  obtain ⟨B1, B2⟩ := comB_leastN ok
  cases hb : barP bs with
  | true =>
    refine iff_of_false ?_ (barred_all F ok hD hb)
    rw [show rowsP bs = [⟨0, 0, 0, 1⟩, ⟨4, 0, 0, 1⟩] from if_pos hb]
    intro h
    have h0 := h ⟨0, 0, 0, 1⟩ (by simp)
    have h4 := h ⟨4, 0, 0, 1⟩ (by simp)
    have e0 : vx 0 = 1 ∧ vy 0 = 0 := ⟨rfl, rfl⟩
    have e4 : vx 4 = -1 ∧ vy 4 = 0 := ⟨rfl, rfl⟩
    simp only [sD, e0.1, e0.2, e4.1, e4.2, Lq] at h0 h4
    omega
  | false =>
    unfold letL
    rw [← tight_all F ok hD, rowsP_eq hb]
    constructor
    · intro h d c d8 e
      have m : lowBn d c.1 c.2 (2 * comB (leastN bs) 1) ∈ rowsI bs 8 := by
        unfold rowsI
        exact List.mem_filterMap.mpr ⟨d, List.mem_range.mpr d8, by unfold rowsF; rw [e]; rfl⟩
      exact (low_lt F (by omega)).mp (h _ m)
    · intro h x hx
      unfold rowsI at hx
      obtain ⟨d, hd, e⟩ := List.mem_filterMap.mp hx
      have d8 := List.mem_range.mp hd
      unfold rowsF at e
      obtain ⟨c, ec, rfl⟩ := Option.map_eq_some_iff.mp e
      exact (low_lt F (by omega)).mpr (h d c d8 ec)
/-- what a piece answers -/
theorem has_L {bs : List Bn} (ok : BsOk bs) {z : Nu × Nu} (o1 : Nu.ok 300 100 z.1) (o2 : Nu.ok 300 100 z.2) : (rowsP bs).all (letN z) = true ↔ letL p q (Lq p q z.1.t z.1.r * z.2.b) (Lq p q z.2.t z.2.r * z.1.b) (z.1.b * z.2.b) bs := by
  have D0 : 0 < z.1.b * z.2.b := Int.mul_pos o1.1 o2.1
  obtain ⟨B1, B2⟩ := comB_leastN ok
  rw [← rows_L F ok D0, List.all_eq_true]
  have key : ∀ x ∈ rowsP bs, (letN z x = true ↔ sD (Lq p q z.1.t z.1.r * z.2.b) (Lq p q z.2.t z.2.r * z.1.b) x.d * x.b < Lq p q x.t x.r * (z.1.b * z.2.b)) := by
    intro x hx
    cases hb : barP bs with
    | true =>
      rw [show rowsP bs = [⟨0, 0, 0, 1⟩, ⟨4, 0, 0, 1⟩] from if_pos hb] at hx
      have l0 : ∀ d : Nat, lowBn d 0 0 1 = (⟨d, 0, 0, 1⟩ : Bn) := fun d => by
        obtain ⟨e1, e2, e3⟩ := low1 0
        unfold lowBn
        rw [e1, e2, e3]
      have go : ∀ d : Nat, d < 8 → x = ⟨d, 0, 0, 1⟩ → (letN z x = true ↔ sD (Lq p q z.1.t z.1.r * z.2.b) (Lq p q z.2.t z.2.r * z.1.b) x.d * x.b < Lq p q x.t x.r * (z.1.b * z.2.b)) := fun d d8 e => by
        have h := letB_L F d8 o1 o2 (t := 0) (r := 0) (b := 1) (by decide) (Bw.zero.mono (by decide)) (Bw.one.mono (by decide))
        rw [l0] at h
        rw [e]
        exact h
      rcases List.mem_cons.mp hx with e | hx
      · exact go 0 (by decide) e
      · exact go 4 (by decide) (List.mem_singleton.mp hx)
    | false =>
      rw [rowsP_eq hb] at hx
      unfold rowsI at hx
      obtain ⟨d, hd, e⟩ := List.mem_filterMap.mp hx
      have d8 := List.mem_range.mp hd
      unfold rowsF at e
      obtain ⟨c, ec, rfl⟩ := Option.map_eq_some_iff.mp e
      have h := letB_L F d8 o1 o2 (t := c.1) (r := c.2) (b := 2 * comB (leastN bs) 1) (by omega) (lprO_bw ok.2.2 d8 c ec).2 (((show Bw 2 2 by unfold Bw; decide).mul B2).mono (by decide))
      rw [h]
      exact (low_lt F (by omega)).symm
  exact ⟨fun h x hx => (key x hx).mp (h x hx), fun h x hx => (key x hx).mpr (h x hx)⟩
/-- the law's rows in lowest terms -/
theorem raw_L {xs : List Bn} (ok : ∀ x ∈ xs, rwOk x) {z : Nu × Nu} (o1 : Nu.ok 300 100 z.1) (o2 : Nu.ok 300 100 z.2) : letL p q (Lq p q z.1.t z.1.r * z.2.b) (Lq p q z.2.t z.2.r * z.1.b) (z.1.b * z.2.b) (xs.map lowN) ↔ ∀ x ∈ xs, cmN (alN x.d z.1 z.2) (nuB x) < 0 := by
  have one : ∀ x ∈ xs, (sD (Lq p q z.1.t z.1.r * z.2.b) (Lq p q z.2.t z.2.r * z.1.b) x.d * lowB x.t x.r x.b < Lq p q (lowT x.t x.r x.b) (lowR x.t x.r x.b) * (z.1.b * z.2.b)) ↔ cmN (alN x.d z.1 z.2) (nuB x) < 0 := fun x hx => by
    have o := ok x hx
    rw [lets_L F o.1 o1 o2 o.2, low_lt F (b := x.b) o.2.1]
    exact Iff.rfl
  constructor
  · exact fun h x hx => (one x hx).mp (h (lowN x) (List.mem_map_of_mem hx))
  · intro h x hx
    obtain ⟨y, hy, rfl⟩ := List.mem_map.mp hx
    exact (one y hy).mpr (h y hy)
theorem sD_opp {A C : Int} {d : Nat} (h : d < 8) : sD A C (oppD d) = - sD A C d := by
  have e : vx (oppD d) = - vx d ∧ vy (oppD d) = - vy d := d8_cases h (P := fun d => vx (oppD d) = - vx d ∧ vy (oppD d) = - vy d) ⟨rfl, rfl⟩ ⟨rfl, rfl⟩ ⟨rfl, rfl⟩ ⟨rfl, rfl⟩ ⟨rfl, rfl⟩ ⟨rfl, rfl⟩ ⟨rfl, rfl⟩ ⟨rfl, rfl⟩
  unfold sD
  rw [e.1, e.2]
  grind
/-- the other side of a bound -/
theorem neg_L {A C D : Int} {x : Bn} (hd : x.d < 8) (hb : 0 < x.b) : letL p q A C D [negBn x] ↔ Lq p q x.t x.r * D < sD A C x.d * x.b := by
  have e : letL p q A C D [negBn x] ↔ sD A C (oppD x.d) * lowB (-x.t) (-x.r) x.b < Lq p q (lowT (-x.t) (-x.r) x.b) (lowR (-x.t) (-x.r) x.b) * D := by
    unfold letL
    constructor
    · exact fun h => h _ (List.mem_singleton.mpr rfl)
    · intro h y hy
      rw [List.mem_singleton.mp hy]
      exact h
  rw [e, low_lt F hb, sD_opp F hd, show Lq p q (-x.t) (-x.r) = - Lq p q x.t x.r by unfold Lq; grind, Int.neg_mul, Int.neg_mul]
  omega
end
/-! sizes: bounds whose bottoms divide one number -/
theorem leastN_mem {bs : List Bn} {x : Bn} (h : some x ∈ leastN bs) : x ∈ bs := by
  unfold leastN at h
  obtain ⟨k, hk, e⟩ := List.mem_map.mp h
  cases k with
  | none => cases e
  | some j => exact List.mem_of_getElem? (show bs[j]? = some x from e)
theorem bsOkD {L : List Bn} {D : Int} {n k : Nat} (h : ∀ x ∈ L, x.d < 8 ∧ 0 < x.b ∧ x.b ∣ D ∧ Bw n x.t ∧ Bw n x.r) (hD : 0 < D) (wD : Bw k D) (hk : k ≤ 530) (hn : n + k ≤ 980) : BsOk L := by
  have ok : ∀ x ∈ L, Bn.ok x := fun x hx => by
    obtain ⟨a, b, c, d, e⟩ := h x hx
    exact ⟨a, b, d.mono (by omega), e.mono (by omega), (bw_dvd c (by omega) wD).mono (by omega)⟩
  obtain ⟨n8, okO⟩ := leastN_ok ok
  have dv : comB (leastN L) 1 ∣ D := comB_dvd (fun x hx => (h x (leastN_mem hx)).2.2.1) (Int.one_dvd _)
  have wB : Bw k (comB (leastN L) 1) := bw_dvd dv (by omega) wD
  exact ⟨ok, wB.mono hk, prs_of n8 okO wB (fun x hx => (h x (leastN_mem hx)).2.2.2) hn⟩
theorem psum_bwG {m : Nat} {ps : List (Option (Int × Int))} (hp : ∀ o ∈ ps, ∀ q, o = some q → Bw m q.1 ∧ Bw m q.2) : ∀ {l : List (Int × Int)} {acc r : Int × Int} {n : Nat}, (∀ p ∈ l, 0 ≤ p.1 ∧ p.1 ≤ 7 ∧ 0 ≤ p.2 ∧ p.2 ≤ 2) → m + 3 ≤ n → Bw n acc.1 → Bw n acc.2 → psum ps l acc = some r → Bw (n + l.length) r.1 ∧ Bw (n + l.length) r.2
  | [], acc, r, n, _, _, h1, h2, e => by
    cases e
    exact ⟨h1, h2⟩
  | p :: l, acc, r, n, ho, hn, h1, h2, e => by
    rw [psum] at e
    cases hq : ps.getD p.1.toNat none with
    | none => rw [hq] at e; cases e
    | some q =>
      rw [hq] at e
      have mq : some q ∈ ps := by
        rw [List.getD_eq_getElem?_getD] at hq
        cases hx : ps[p.1.toNat]? with
        | none => rw [hx] at hq; cases hq
        | some o => rw [hx] at hq; rw [← show o = some q from hq]; exact List.mem_of_getElem? hx
      obtain ⟨b1, b2⟩ := hp _ mq q rfl
      obtain ⟨-, -, w0, w2⟩ := ho p (List.mem_cons_self ..)
      have wp : Bw 2 p.2 := by unfold Bw; omega
      have c1 : Bw (n + 1) (acc.1 + p.2 * q.1) := (h1.add ((wp.mul b1).mono (show 2 + m ≤ n by omega))).mono (show max n n + 1 ≤ n + 1 by omega)
      have c2 : Bw (n + 1) (acc.2 + p.2 * q.2) := (h2.add ((wp.mul b2).mono (show 2 + m ≤ n by omega))).mono (show max n n + 1 ≤ n + 1 by omega)
      obtain ⟨d1, d2⟩ := psum_bwG hp (n := n + 1) (fun p hm => ho p (List.mem_cons_of_mem _ hm)) (by omega) c1 c2 e
      rw [List.length_cons, show n + (l.length + 1) = n + 1 + l.length by omega]
      exact ⟨d1, d2⟩
/-- the tightened numbers, closer -/
theorem lprO_bwG {m : Nat} {ps : List (Option (Int × Int))} (hk : PrsOk ps) (hp : ∀ o ∈ ps, ∀ q, o = some q → Bw m q.1 ∧ Bw m q.2) {d : Nat} (hd : d < 8) : WO (m + 8) (lprO ps d) := by
  obtain ⟨p, q, F⟩ := far_ex
  intro c e
  rcases (lfold_spec F hk (l := pressD d) (acc := none) (pressD_ok hd).2 (fun r e => by cases e)).1 c e with h | ⟨x, hx, r, er, rfl⟩
  · cases h
  · obtain ⟨hw, pt⟩ := (pressD_ok hd).2 x hx
    obtain ⟨a, b⟩ := psum_bwG hp (n := m + 3) pt.2 (Nat.le_refl _) (Bw.zero.mono (by omega)) (Bw.zero.mono (by omega)) er
    have l3 := pt.1
    have fb : Bw 2 (2 / x.1) := by rcases hw with h | h <;> (rw [h]; unfold Bw; decide)
    exact ⟨(a.mul fb).mono (by omega), (b.mul fb).mono (by omega)⟩
/-! sizes of the rows of a piece, and of what is made of them -/
def bnSz (n k : Nat) (x : Bn) : Prop := x.d < 8 ∧ 0 < x.b ∧ Bw n x.t ∧ Bw n x.r ∧ Bw k x.b
def rwSz (n : Nat) (D : Int) (x : Bn) : Prop := x.d < 8 ∧ 0 < x.b ∧ x.b ∣ D ∧ Bw n x.t ∧ Bw n x.r
theorem lowB_dvd {t r b : Int} (hb : 0 < b) : lowB t r b ∣ b := by
  obtain ⟨s, -, -, -, e⟩ := low_pos (t := t) (r := r) hb
  exact ⟨s, e⟩
theorem two_bw {n : Nat} {x : Int} (h : Bw n x) : Bw (n + 2) (2 * x) := ((show Bw 2 2 by unfold Bw; decide).mul h).mono (by omega)
theorem rowsP_sz {n k : Nat} {bs : List Bn} (h : ∀ x ∈ bs, bnSz n k x) (h1 : 8 * k ≤ 520) (h2 : n + 8 * k ≤ 970) : BsOk bs ∧ 0 < 2 * comB (leastN bs) 1 ∧ Bw (8 * k + 3) (2 * comB (leastN bs) 1) ∧ ∀ x ∈ rowsP bs, rwSz (n + 8 * k + 9) (2 * comB (leastN bs) 1) x := by
  have ok' : ∀ x ∈ bs, Bn.ok x := fun x hx => by
    obtain ⟨a, b, c, d, e⟩ := h x hx
    exact ⟨a, b, c.mono (by omega), d.mono (by omega), e.mono (by omega)⟩
  obtain ⟨n8, okO⟩ := leastN_ok ok'
  have B2 := comB_bw (k := k) (ns := leastN bs) (B := 1) (n := 1) (fun x hx => (h x (leastN_mem hx)).2.2.2.2) Bw.one
  rw [n8] at B2
  replace B2 : Bw (8 * k + 1) (comB (leastN bs) 1) := B2.mono (by omega)
  have sz : ∀ x, some x ∈ leastN bs → Bw n x.t ∧ Bw n x.r := fun x hx => ⟨(h x (leastN_mem hx)).2.2.1, (h x (leastN_mem hx)).2.2.2.1⟩
  have B1 := (comB_ok okO (B := 1) (by decide)).1
  have pk : PrsOk ((leastN bs).map (prO (comB (leastN bs) 1))) := prs_of n8 okO B2 sz (by omega)
  have ok : BsOk bs := ⟨ok', B2.mono (by omega), pk⟩
  have pairs : ∀ o ∈ (leastN bs).map (prO (comB (leastN bs) 1)), ∀ q, o = some q → Bw (n + (8 * k + 1)) q.1 ∧ Bw (n + (8 * k + 1)) q.2 := fun o ho q e => by
    obtain ⟨m, hm, rfl⟩ := List.mem_map.mp ho
    cases m with
    | none => cases e
    | some y =>
      cases e
      have oy := okO _ hm y rfl
      obtain ⟨w1, w2⟩ := sz y hm
      obtain ⟨-, -, B4⟩ := comB_ok okO (B := 1) (by decide)
      have wby : Bw (8 * k + 1) (comB (leastN bs) 1 / y.b) := bw_div (s := y.b) B2 (by
        obtain ⟨k, hk⟩ := B4 y hm
        rw [hk, Int.mul_ediv_cancel_left _ (by have := oy.2.1; omega), Int.mul_comm]) (by have := oy.2.1; omega)
      exact ⟨w1.mul wby, w2.mul wby⟩
  refine ⟨ok, by omega, two_bw B2, fun x hx => ?_⟩
  cases hb : barP bs with
  | true =>
    rw [show rowsP bs = [⟨0, 0, 0, 1⟩, ⟨4, 0, 0, 1⟩] from if_pos hb] at hx
    rcases List.mem_cons.mp hx with e | hx
    · rw [e]
      exact ⟨by decide, by decide, Int.one_dvd _, Bw.zero.mono (by omega), Bw.zero.mono (by omega)⟩
    · rw [List.mem_singleton.mp hx]
      exact ⟨by decide, by decide, Int.one_dvd _, Bw.zero.mono (by omega), Bw.zero.mono (by omega)⟩
  | false =>
    rw [rowsP_eq hb] at hx
    unfold rowsI at hx
    obtain ⟨d, hd, e⟩ := List.mem_filterMap.mp hx
    have d8 := List.mem_range.mp hd
    unfold rowsF at e
    obtain ⟨c, ec, rfl⟩ := Option.map_eq_some_iff.mp e
    obtain ⟨w1, w2⟩ := lprO_bwG pk pairs d8 c ec
    have hb0 : 0 < 2 * comB (leastN bs) 1 := by omega
    obtain ⟨a1, a2, -⟩ := bw_lows (t := c.1) (r := c.2) hb0 w1 w2 (two_bw B2)
    exact ⟨d8, (low_is (t := c.1) (r := c.2) (Int.ne_of_gt hb0)).pos, lowB_dvd hb0, a1.mono (by omega), a2.mono (by omega)⟩
theorem met_ok {n n' k k' : Nat} {D D' : Int} {xs ys : List Bn} (h : ∀ x ∈ xs, rwSz n D x) (h' : ∀ x ∈ ys, rwSz n' D' x) (hD : 0 < D) (hD' : 0 < D') (w : Bw k D) (w' : Bw k' D') (e1 : k + k' ≤ 530) (e2 : n + (k + k') ≤ 980) (e3 : n' + (k + k') ≤ 980) : BsOk (xs ++ ys) := by
  refine bsOkD (D := D * D') (n := max n n') (fun x hx => ?_) (Int.mul_pos hD hD') (w.mul w') e1 (by omega)
  rcases List.mem_append.mp hx with hx | hx
  · obtain ⟨a, b, c, d, e⟩ := h x hx
    exact ⟨a, b, Int.dvd_trans c (Int.dvd_mul_right ..), d.mono (by omega), e.mono (by omega)⟩
  · obtain ⟨a, b, c, d, e⟩ := h' x hx
    exact ⟨a, b, Int.dvd_trans c (Int.dvd_mul_left ..), d.mono (by omega), e.mono (by omega)⟩
theorem one_sz {n k : Nat} {x : Bn} (h : bnSz n k x) : ∀ y ∈ [x], rwSz n x.b y := fun y hy => by
  rw [List.mem_singleton.mp hy]
  exact ⟨h.1, h.2.1, Int.dvd_refl _, h.2.2.1, h.2.2.2.1⟩
theorem lowBn_sz {n k d : Nat} {t r b : Int} (hd : d < 8) (hb : 0 < b) (w1 : Bw n t) (w2 : Bw n r) (w3 : Bw k b) : bnSz n k (lowBn d t r b) := by
  obtain ⟨a1, a2, a3⟩ := bw_lows hb w1 w2 w3
  exact ⟨hd, (low_is (t := t) (r := r) (Int.ne_of_gt hb)).pos, a1, a2, a3⟩
theorem negBn_sz {n k : Nat} {x : Bn} (h : bnSz n k x) : bnSz n k (negBn x) := lowBn_sz oppD_lt h.2.1 h.2.2.1.neg h.2.2.2.1.neg h.2.2.2.2
theorem led_ok {n k m j : Nat} {D : Int} {xs : List Bn} {t r b t' r' b' : Int} (h : ∀ x ∈ xs, rwSz n D x) (hD : 0 < D) (w : Bw k D) (hb : 0 < b) (hb' : 0 < b') (w1 : Bw m t) (w2 : Bw m r) (w3 : Bw j b) (w4 : Bw m t') (w5 : Bw m r') (w6 : Bw j b') (e1 : k + (j + j) ≤ 530) (e2 : max (m + j + 2 + k) (n + (j + j)) + 1 + (k + (j + j)) ≤ 980) : BsOk (xs.map (ledBn t r b t' r' b')) := by
  have bb : 0 < b * b' := Int.mul_pos hb hb'
  refine bsOkD (D := D * (b * b')) (n := max (m + j + 2 + k) (n + (j + j)) + 1) (fun y hy => ?_) (Int.mul_pos hD bb) (w.mul (w3.mul w6)) e1 e2
  obtain ⟨x, hx, rfl⟩ := List.mem_map.mp hy
  obtain ⟨a, c, dv, d, e⟩ := h x hx
  obtain ⟨v1, v2⟩ := v_bw a
  have wx : Bw k x.b := bw_dvd dv (by omega) w
  have T1 : Bw (m + j + 2) (twT x.d t b t' b') := (((v1.mul w1).mul w6).add ((v2.mul w4).mul w3)).mono (by omega)
  have T2 : Bw (m + j + 2) (twT x.d r b r' b') := (((v1.mul w2).mul w6).add ((v2.mul w5).mul w3)).mono (by omega)
  obtain ⟨l1, l2, l3⟩ := bw_lows (t := twT x.d t b t' b') (r := twT x.d r b r' b') bb T1 T2 (w3.mul w6)
  have ld := lowB_dvd (t := twT x.d t b t' b') (r := twT x.d r b r' b') bb
  have lp := (low_is (t := twT x.d t b t' b') (r := twT x.d r b r' b') (Int.ne_of_gt bb)).pos
  unfold ledBn
  generalize lowT (twT x.d t b t' b') (twT x.d r b r' b') (b * b') = T at *
  generalize lowR (twT x.d t b t' b') (twT x.d r b r' b') (b * b') = R at *
  generalize lowB (twT x.d t b t' b') (twT x.d r b r' b') (b * b') = B at *
  have Bx : 0 < B * x.b := Int.mul_pos lp c
  have P1 : Bw (max (m + j + 2 + k) (n + (j + j)) + 1) (plus.t T R B x.t x.r x.b) := ((l1.mul wx).add (d.mul l3)).mono (by omega)
  have P2 : Bw (max (m + j + 2 + k) (n + (j + j)) + 1) (plus.r T R B x.t x.r x.b) := ((l2.mul wx).add (e.mul l3)).mono (by omega)
  obtain ⟨s1, s2, s3, s4, -⟩ := lowBn_sz (d := x.d) (b := plus.b T R B x.t x.r x.b) (k := j + j + k) a Bx P1 P2 (l3.mul wx)
  refine ⟨s1, s2, Int.dvd_trans (lowB_dvd Bx) ?_, s3, s4⟩
  show B * x.b ∣ D * (b * b')
  rw [Int.mul_comm D]
  exact Int.mul_dvd_mul ld dv
theorem gro_ok {n k m j : Nat} {D : Int} {xs : List Bn} {t r b : Int} {f : Nat → Nat} (hf : ∀ d, d < 8 → f d < 8) (h : ∀ x ∈ xs, rwSz n D x) (hD : 0 < D) (w : Bw k D) (hb : 0 < b) (w1 : Bw m t) (w2 : Bw m r) (w3 : Bw j b) (e1 : k + j ≤ 530) (e2 : m + n + 3 + (k + j) ≤ 980) : BsOk (xs.map fun x => groBn (f x.d) t r b x) := by
  refine bsOkD (D := D * b) (n := m + n + 3) (fun y hy => ?_) (Int.mul_pos hD hb) (w.mul w3) e1 e2
  obtain ⟨x, hx, rfl⟩ := List.mem_map.mp hy
  obtain ⟨a, c, dv, d, e⟩ := h x hx
  have wx : Bw k x.b := bw_dvd dv (by omega) w
  have Bx : 0 < b * x.b := Int.mul_pos hb c
  have P1 : Bw (m + n + 3) (times.t t r b x.t x.r x.b) := ((w1.mul d).add ((two_bw w2).mul e)).mono (by omega)
  have P2 : Bw (m + n + 3) (times.r t r b x.t x.r x.b) := ((w1.mul e).add (w2.mul d)).mono (by omega)
  unfold groBn
  obtain ⟨s1, s2, s3, s4, -⟩ := lowBn_sz (d := f x.d) (b := times.b t r b x.t x.r x.b) (k := j + k) (hf _ a) Bx P1 P2 (w3.mul wx)
  refine ⟨s1, s2, Int.dvd_trans (lowB_dvd Bx) ?_, s3, s4⟩
  show b * x.b ∣ D * b
  rw [Int.mul_comm D]
  exact Int.mul_dvd_mul (Int.dvd_refl _) dv
theorem lowN_sz {n k : Nat} {x : Bn} (h : x.d < 8 ∧ Nu.ok n k (nuB x)) : bnSz n k (lowN x) := lowBn_sz h.1 h.2.1 h.2.2.1 h.2.2.2.1 h.2.2.2.2
/-! pieces led and grown -/
theorem led_int {a c u1 u2 c1 c2 w1 w2 e1 e2 P1 P2 f1 f2 L b : Int} (hc1 : 0 < c1) (hc2 : 0 < c2) (he1 : 0 < e1) (he2 : 0 < e2) (hf1 : 0 < f1) (hf2 : 0 < f2) (h1 : P1 * (c1 * e1) = (u1 * e1 + w1 * c1) * f1) (h2 : P2 * (c2 * e2) = (u2 * e2 + w2 * c2) * f2) :
    (a * (P1 * f2) + c * (P2 * f1)) * (e1 * e2 * b) < ((a * w1 * e2 + c * w2 * e1) * b + L * (e1 * e2)) * (f1 * f2) ↔ (a * (u1 * c2) + c * (u2 * c1)) * b < L * (c1 * c2) := by
  have K : 0 < c1 * e1 * (c2 * e2) := Int.mul_pos (Int.mul_pos hc1 he1) (Int.mul_pos hc2 he2)
  have G : 0 < f1 * f2 * (e1 * e2) := Int.mul_pos (Int.mul_pos hf1 hf2) (Int.mul_pos he1 he2)
  have E : 0 < e1 * e2 := Int.mul_pos he1 he2
  have i1 : (a * (P1 * f2) + c * (P2 * f1)) * (e1 * e2 * b) * (c1 * e1 * (c2 * e2)) = ((a * (u1 * e1 + w1 * c1) * (c2 * e2) + c * (u2 * e2 + w2 * c2) * (c1 * e1)) * b) * (f1 * f2 * (e1 * e2)) := by
    have s1 : (a * (P1 * f2) + c * (P2 * f1)) * (e1 * e2 * b) * (c1 * e1 * (c2 * e2)) = (a * (P1 * (c1 * e1)) * (f2 * (c2 * e2)) + c * (P2 * (c2 * e2)) * (f1 * (c1 * e1))) * (e1 * e2 * b) := by grind
    rw [s1, h1, h2]
    grind
  have i2 : ((a * w1 * e2 + c * w2 * e1) * b + L * (e1 * e2)) * (f1 * f2) * (c1 * e1 * (c2 * e2)) = (((a * w1 * e2 + c * w2 * e1) * b + L * (e1 * e2)) * (c1 * c2)) * (f1 * f2 * (e1 * e2)) := by grind
  rw [← lt_mul K, i1, i2, lt_mul G]
  have i3 : (a * (u1 * e1 + w1 * c1) * (c2 * e2) + c * (u2 * e2 + w2 * c2) * (c1 * e1)) * b - ((a * w1 * e2 + c * w2 * e1) * b + L * (e1 * e2)) * (c1 * c2) = (a * (u1 * c2) + c * (u2 * c1)) * b * (e1 * e2) - L * (c1 * c2) * (e1 * e2) := by grind
  rw [← lt_mul (a := (a * (u1 * c2) + c * (u2 * c1)) * b) (b := L * (c1 * c2)) E]
  omega
section
variable {p q : Int} (F : Far p q)
include F
theorem pl_low {z y : Nu} (hy : 0 < y.b) : Lq p q (plN z y).t (plN z y).r * (z.b * lowB y.t y.r y.b) = (Lq p q z.t z.r * lowB y.t y.r y.b + Lq p q (lowT y.t y.r y.b) (lowR y.t y.r y.b) * z.b) * (plN z y).b := by
  obtain ⟨s, hs, l, b⟩ := low_L F (t := y.t) (r := y.r) hy
  have q1 := pl_L (p := p) (q := q) z y
  generalize Lq p q (plN z y).t (plN z y).r = P at *
  generalize (plN z y).b = f at *
  generalize Lq p q (lowT y.t y.r y.b) (lowR y.t y.r y.b) = W at *
  generalize lowB y.t y.r y.b = E at *
  rw [l, b] at q1
  refine Int.eq_of_mul_eq_mul_right (show s ≠ 0 by omega) ?_
  rw [show P * (z.b * E) * s = P * (z.b * (E * s)) by grind, q1]
  grind
theorem led_L {x : Bn} (hb : 0 < x.b) {z y : Nu × Nu} (z1 : 0 < z.1.b) (z2 : 0 < z.2.b) (y1 : 0 < y.1.b) (y2 : 0 < y.2.b) (g1 : 0 < (plN z.1 y.1).b) (g2 : 0 < (plN z.2 y.2).b) :
    (sD (Lq p q (plN z.1 y.1).t (plN z.1 y.1).r * (plN z.2 y.2).b) (Lq p q (plN z.2 y.2).t (plN z.2 y.2).r * (plN z.1 y.1).b) x.d * (ledBn (lowT y.1.t y.1.r y.1.b) (lowR y.1.t y.1.r y.1.b) (lowB y.1.t y.1.r y.1.b) (lowT y.2.t y.2.r y.2.b) (lowR y.2.t y.2.r y.2.b) (lowB y.2.t y.2.r y.2.b) x).b < Lq p q (ledBn (lowT y.1.t y.1.r y.1.b) (lowR y.1.t y.1.r y.1.b) (lowB y.1.t y.1.r y.1.b) (lowT y.2.t y.2.r y.2.b) (lowR y.2.t y.2.r y.2.b) (lowB y.2.t y.2.r y.2.b) x).t (ledBn (lowT y.1.t y.1.r y.1.b) (lowR y.1.t y.1.r y.1.b) (lowB y.1.t y.1.r y.1.b) (lowT y.2.t y.2.r y.2.b) (lowR y.2.t y.2.r y.2.b) (lowB y.2.t y.2.r y.2.b) x).r * ((plN z.1 y.1).b * (plN z.2 y.2).b)) ↔
    sD (Lq p q z.1.t z.1.r * z.2.b) (Lq p q z.2.t z.2.r * z.1.b) x.d * x.b < Lq p q x.t x.r * (z.1.b * z.2.b) := by
  have p1 := (low_is (t := y.1.t) (r := y.1.r) (Int.ne_of_gt y1)).pos
  have p2 := (low_is (t := y.2.t) (r := y.2.r) (Int.ne_of_gt y2)).pos
  have q1 := pl_low F (z := z.1) (y := y.1) y1
  have q2 := pl_low F (z := z.2) (y := y.2) y2
  generalize lowT y.1.t y.1.r y.1.b = ty at *
  generalize lowR y.1.t y.1.r y.1.b = ry at *
  generalize lowB y.1.t y.1.r y.1.b = e1 at *
  generalize lowT y.2.t y.2.r y.2.b = ty' at *
  generalize lowR y.2.t y.2.r y.2.b = ry' at *
  generalize lowB y.2.t y.2.r y.2.b = e2 at *
  have bb : 0 < e1 * e2 := Int.mul_pos p1 p2
  obtain ⟨s, hs, l, b⟩ := low_L F (t := twT x.d ty e1 ty' e2) (r := twT x.d ry e1 ry' e2) (b := e1 * e2) bb
  have pp := (low_is (t := twT x.d ty e1 ty' e2) (r := twT x.d ry e1 ry' e2) (Int.ne_of_gt bb)).pos
  have tw : Lq p q (twT x.d ty e1 ty' e2) (twT x.d ry e1 ry' e2) = vx x.d * Lq p q ty ry * e2 + vy x.d * Lq p q ty' ry' * e1 := by unfold Lq twT; grind
  unfold ledBn lowBn
  dsimp only
  generalize lowT (twT x.d ty e1 ty' e2) (twT x.d ry e1 ry' e2) (e1 * e2) = T at *
  generalize lowR (twT x.d ty e1 ty' e2) (twT x.d ry e1 ry' e2) (e1 * e2) = R at *
  generalize lowB (twT x.d ty e1 ty' e2) (twT x.d ry e1 ry' e2) (e1 * e2) = B at *
  have Bx : 0 < plus.b T R B x.t x.r x.b := Int.mul_pos pp hb
  rw [low_lt F Bx]
  rw [show Lq p q (plus.t T R B x.t x.r x.b) (plus.r T R B x.t x.r x.b) = Lq p q T R * x.b + Lq p q x.t x.r * B by unfold Lq plus; dsimp only; grind, show plus.b T R B x.t x.r x.b = B * x.b from rfl, ← lt_mul hs]
  generalize Lq p q T R = W at *
  unfold sD
  generalize Lq p q (plN z.1 y.1).t (plN z.1 y.1).r = P1 at *
  generalize Lq p q (plN z.2 y.2).t (plN z.2 y.2).r = P2 at *
  generalize (plN z.1 y.1).b = f1 at *
  generalize (plN z.2 y.2).b = f2 at *
  have m := led_int (a := vx x.d) (c := vy x.d) (L := Lq p q x.t x.r) (b := x.b) z1 z2 p1 p2 g1 g2 q1 q2
  rw [← m, ← tw, l, show (vx x.d * (P1 * f2) + vy x.d * (P2 * f1)) * (B * x.b) * s = (vx x.d * (P1 * f2) + vy x.d * (P2 * f1)) * (B * s * x.b) by grind, ← b, show (W * x.b + Lq p q x.t x.r * B) * (f1 * f2) * s = (W * s * x.b + Lq p q x.t x.r * (B * s)) * (f1 * f2) by grind, ← b]
/-- a product's sign -/
theorem mul_L {t r t' r' : Int} (w : Bw 1400 r) (w' : Bw 1400 r') (w2 : Bw 2900 (t * r' + r * t')) (h : 0 < Lq p q t r) (h' : 0 < Lq p q t' r') : 0 < Lq p q (t * t' + 2 * r * r') (t * r' + r * t') := by
  have e := F.pell.e
  have q0 := F.pell.q
  have id : q * Lq p q (t * t' + 2 * r * r') (t * r' + r * t') = Lq p q t r * Lq p q t' r' - r * r' := by
    unfold Lq
    grind
  have pos := Int.mul_pos h h'
  have rr : r * r' < q := by
    have b : Bw 2800 (r * r') := w.mul w'
    have : (r * r').natAbs < 2 ^ 2800 := b
    have l : (2 : Int) ^ 2800 < 2 ^ 3000 := by decide +kernel
    have far := F.far
    have n : ((r * r').natAbs : Int) < (2 : Int) ^ 2800 := by
      rw [show ((2 : Int) ^ 2800) = ((2 ^ 2800 : Nat) : Int) from (Int.natCast_pow 2 2800).symm]
      exact Int.ofNat_lt.mpr this
    omega
  have ge : 0 ≤ Lq p q (t * t' + 2 * r * r') (t * r' + r * t') := by
    refine Int.not_lt.mp fun z => ?_
    have := Int.mul_le_mul_of_nonneg_left (show Lq p q (t * t' + 2 * r * r') (t * r' + r * t') ≤ -1 by omega) (show 0 ≤ q by omega)
    omega
  suffices ne : Lq p q (t * t' + 2 * r * r') (t * r' + r * t') ≠ 0 by omega
  intro z
  have hr : ((t * r' + r * t').natAbs : Int) < q := by
    refine Int.lt_trans ?_ F.far
    rw [show ((2 : Int) ^ 3000) = ((2 ^ 3000 : Nat) : Int) from (Int.natCast_pow 2 3000).symm]
    exact Int.ofNat_lt.mpr (w2.mono (show 2900 ≤ 3000 by decide))
  obtain ⟨a, b⟩ := (sg2_pell (t := t * t' + 2 * r * r') F.pell hr).2.2 z
  have nn : (t * t - 2 * r * r) * (t' * t' - 2 * r' * r') = 0 := by
    have : (t * t - 2 * r * r) * (t' * t' - 2 * r' * r') = (t * t' + 2 * r * r') * (t * t' + 2 * r * r') - 2 * ((t * r' + r * t') * (t * r' + r * t')) := by grind
    rw [this, a, b]
    rfl
  rcases Int.mul_eq_zero.mp nn with y | y
  · obtain ⟨rfl, rfl⟩ := sqr2 y
    simp [Lq] at h
  · obtain ⟨rfl, rfl⟩ := sqr2 y
    simp [Lq] at h'
end
def tmN (x y : Nu) : Nu := ⟨x.t * y.t + 2 * x.r * y.r, x.t * y.r + x.r * y.t, x.b * y.b⟩
section
variable {p q : Int} (F : Far p q)
include F
/-- times a positive number -/
theorem mul_S {t r t' r' : Int} (w : Bw 1400 r) (w' : Bw 1400 r') (w2 : Bw 2900 (t * r' + r * t')) (h : 0 < Lq p q t r) : Lq p q (t * t' + 2 * r * r') (t * r' + r * t') < 0 ↔ Lq p q t' r' < 0 := by
  rcases Int.lt_trichotomy (Lq p q t' r') 0 with y | y | y
  · refine iff_of_true ?_ y
    have e1 : t * -r' + r * -t' = -(t * r' + r * t') := by grind
    have := mul_L F (t' := -t') (r' := -r') w w'.neg (by rw [e1]; exact w2.neg) h (by unfold Lq at *; grind)
    have e2 : Lq p q (t * -t' + 2 * r * -r') (t * -r' + r * -t') = - Lq p q (t * t' + 2 * r * r') (t * r' + r * t') := by unfold Lq; grind
    omega
  · have hr : ((r').natAbs : Int) < q := by
      refine Int.lt_trans ?_ F.far
      rw [show ((2 : Int) ^ 3000) = ((2 ^ 3000 : Nat) : Int) from (Int.natCast_pow 2 3000).symm]
      exact Int.ofNat_lt.mpr (w'.mono (show 1400 ≤ 3000 by decide))
    obtain ⟨rfl, rfl⟩ := (sg2_pell (t := t') F.pell hr).2.2 y
    simp [Lq]
  · have := mul_L F w w' w2 h y
    omega
/-- grown by a positive number f, s * f = g -/
theorem gro_L {d : Nat} {x : Bn} {z : Nu × Nu} {g : Nu} {ft fr fb s : Int} (hd : d < 8) (hx : 0 < x.b) (z1 : 0 < z.1.b) (z2 : 0 < z.2.b) (hg : 0 < g.b) (hs : 0 < s) (hf : 0 < fb) (e1 : g.t = ft * s) (e2 : g.r = fr * s) (e3 : g.b = fb * s) (pos : 0 < Lq p q g.t g.r)
    (w1 : Bw 4 g.t) (w2 : Bw 4 g.r) (o1 : Nu.ok 300 100 z.1) (o2 : Nu.ok 300 100 z.2) (wt : Bw 400 x.t) (wr : Bw 400 x.r) (wb : Bw 300 x.b) :
    (sD (Lq p q (tmN g z.1).t (tmN g z.1).r * (tmN g z.2).b) (Lq p q (tmN g z.2).t (tmN g z.2).r * (tmN g z.1).b) d * (groBn d ft fr fb x).b < Lq p q (groBn d ft fr fb x).t (groBn d ft fr fb x).r * ((tmN g z.1).b * (tmN g z.2).b)) ↔
    sD (Lq p q z.1.t z.1.r * z.2.b) (Lq p q z.2.t z.2.r * z.1.b) d * x.b < Lq p q x.t x.r * (z.1.b * z.2.b) := by
  obtain ⟨v1, v2⟩ := v_bw hd
  have fx : 0 < times.b ft fr fb x.t x.r x.b := Int.mul_pos hf hx
  unfold groBn lowBn
  dsimp only
  rw [low_lt F fx]
  obtain ⟨z, y⟩ := z
  dsimp only at *
  have E : ∀ T R : Int, T = (vx d * z.t * y.b + vy d * y.t * z.b) * x.b - x.t * (z.b * y.b) → R = (vx d * z.r * y.b + vy d * y.r * z.b) * x.b - x.r * (z.b * y.b) →
      ((sD (Lq p q (tmN g z).t (tmN g z).r * (tmN g y).b) (Lq p q (tmN g y).t (tmN g y).r * (tmN g z).b) d * times.b ft fr fb x.t x.r x.b - Lq p q (times.t ft fr fb x.t x.r x.b) (times.r ft fr fb x.t x.r x.b) * ((tmN g z).b * (tmN g y).b)) * s = Lq p q (g.t * T + 2 * g.r * R) (g.t * R + g.r * T) * (g.b * g.b) ∧
      sD (Lq p q z.t z.r * y.b) (Lq p q y.t y.r * z.b) d * x.b - Lq p q x.t x.r * (z.b * y.b) = Lq p q T R) := by
    intro T R hT hR
    subst hT hR
    constructor
    · unfold sD Lq tmN times
      dsimp only
      rw [e1, e2, e3]
      grind
    · unfold sD Lq
      grind
  obtain ⟨i1, i2⟩ := E _ _ rfl rfl
  have wT : Bw 1300 ((vx d * z.t * y.b + vy d * y.t * z.b) * x.b - x.t * (z.b * y.b)) := ((((v1.mul o1.2.1).mul o2.2.2.2).add ((v2.mul o2.2.1).mul o1.2.2.2)).mul wb).sub (wt.mul (o1.2.2.2.mul o2.2.2.2)) |>.mono (by decide)
  have wR : Bw 1300 ((vx d * z.r * y.b + vy d * y.r * z.b) * x.b - x.r * (z.b * y.b)) := ((((v1.mul o1.2.2.1).mul o2.2.2.2).add ((v2.mul o2.2.2.1).mul o1.2.2.2)).mul wb).sub (wr.mul (o1.2.2.2.mul o2.2.2.2)) |>.mono (by decide)
  generalize (vx d * z.t * y.b + vy d * y.t * z.b) * x.b - x.t * (z.b * y.b) = T at *
  generalize (vx d * z.r * y.b + vy d * y.r * z.b) * x.b - x.r * (z.b * y.b) = R at *
  have m := mul_S F (t := g.t) (r := g.r) (t' := T) (r' := R) (w2.mono (by decide)) (wR.mono (by decide)) (((w1.mul wR).add (w2.mul wT)).mono (by decide)) pos
  have gg := Int.mul_pos hg hg
  have c1 := lt_mul (a := Lq p q (g.t * T + 2 * g.r * R) (g.t * R + g.r * T)) (b := 0) gg
  generalize sD (Lq p q (tmN g z).t (tmN g z).r * (tmN g y).b) (Lq p q (tmN g y).t (tmN g y).r * (tmN g z).b) d * times.b ft fr fb x.t x.r x.b = X at *
  generalize Lq p q (times.t ft fr fb x.t x.r x.b) (times.r ft fr fb x.t x.r x.b) * ((tmN g z).b * (tmN g y).b) = Y at *
  have c2 := lt_mul (a := X - Y) (b := 0) hs
  rw [i1, Int.zero_mul] at c2
  rw [Int.zero_mul] at c1
  omega
end
/-! pieces as sets of points: what pieces met, led, grown, parted let -/
def letP (p q : Int) (z : Nu × Nu) (bs : List Bn) : Prop := letL p q (Lq p q z.1.t z.1.r * z.2.b) (Lq p q z.2.t z.2.r * z.1.b) (z.1.b * z.2.b) bs
theorem letL_map {p q A C D A' C' D' : Int} {f : Bn → Bn} {xs : List Bn} (h : ∀ x ∈ xs, (sD A C (f x).d * (f x).b < Lq p q (f x).t (f x).r * D ↔ sD A' C' x.d * x.b < Lq p q x.t x.r * D')) : letL p q A C D (xs.map f) ↔ letL p q A' C' D' xs := by
  unfold letL
  constructor
  · exact fun k x hx => (h x hx).mp (k _ (List.mem_map_of_mem hx))
  · intro k y hy
    obtain ⟨x, hx, rfl⟩ := List.mem_map.mp hy
    exact (h x hx).mpr (k x hx)
section
variable {p q : Int} (F : Far p q)
include F
theorem cm_P {x y : Nu} (ox : Nu.ok 990 990 x) (oy : Nu.ok 990 990 y) : 0 < cmN x y ↔ Lq p q y.t y.r * x.b < Lq p q x.t x.r * y.b := by
  have os : Nu.ok 991 990 (scN (-1) y) := scN_ok oy (by unfold Bw; decide)
  have ol := plN_ok ox os
  have e := pl_L (p := p) (q := q) x (scN (-1) y)
  have b0 : 0 < x.b * (scN (-1) y).b := Int.mul_pos ox.1 oy.1
  have le := F.le (t := (plN x (scN (-1) y)).t) (ol.2.2.1.mono (by decide))
  have : 0 < cmN x y ↔ 0 < Lq p q (plN x (scN (-1) y)).t (plN x (scN (-1) y)).r := by
    rw [← Int.not_le, ← Int.not_le, ← le]
    exact Iff.rfl
  rw [this, ← lt_mul b0, e, Int.zero_mul]
  rw [show (0 : Int) = 0 * (plN x (scN (-1) y)).b from (Int.zero_mul _).symm, lt_mul ol.1]
  rw [show Lq p q (scN (-1) y).t (scN (-1) y).r = - Lq p q y.t y.r by simp only [Lq, scN]; grind]
  show 0 < Lq p q x.t x.r * y.b + -Lq p q y.t y.r * x.b ↔ _
  rw [Int.neg_mul]
  omega
theorem lets_P {d : Nat} (hd : d < 8) {z1 z2 n : Nu} (o1 : Nu.ok 300 100 z1) (o2 : Nu.ok 300 100 z2) (on : Nu.ok 200 50 n) : 0 < cmN (alN d z1 z2) n ↔ Lq p q n.t n.r * (z1.b * z2.b) < sD (Lq p q z1.t z1.r * z2.b) (Lq p q z2.t z2.r * z1.b) d * n.b := by
  obtain ⟨v1, v2⟩ := v_bw hd
  have oa := plN_ok (scN_ok o1 v1) (scN_ok o2 v2)
  have e := pl_L (p := p) (q := q) (scN (vx d) z1) (scN (vy d) z2)
  rw [cm_P F (x := alN d z1 z2) (oa.mono (by decide) (by decide)) (on.mono (by decide) (by decide))]
  have D0 : 0 < z1.b * z2.b := Int.mul_pos o1.1 o2.1
  have a0 : 0 < (alN d z1 z2).b := oa.1
  replace e : Lq p q (alN d z1 z2).t (alN d z1 z2).r * (z1.b * z2.b) = (Lq p q (vx d * z1.t) (vx d * z1.r) * z2.b + Lq p q (vy d * z2.t) (vy d * z2.r) * z1.b) * (alN d z1 z2).b := e
  rw [show Lq p q (vx d * z1.t) (vx d * z1.r) * z2.b + Lq p q (vy d * z2.t) (vy d * z2.r) * z1.b = sD (Lq p q z1.t z1.r * z2.b) (Lq p q z2.t z2.r * z1.b) d by simp only [Lq, sD]; grind] at e
  generalize sD (Lq p q z1.t z1.r * z2.b) (Lq p q z2.t z2.r * z1.b) d = s at *
  generalize Lq p q (alN d z1 z2).t (alN d z1 z2).r = a at *
  generalize (alN d z1 z2).b = ab at *
  generalize z1.b * z2.b = D at *
  rw [← lt_mul D0, show a * n.b * D = a * D * n.b by grind, e, show s * ab * n.b = s * n.b * ab by grind, show Lq p q n.t n.r * ab * D = Lq p q n.t n.r * D * ab by grind, lt_mul a0]
theorem raw_P {xs : List Bn} (ok : ∀ x ∈ xs, rwOk x) {z : Nu × Nu} (oz : okP z) : letP p q z (xs.map lowN) ↔ gB xs z = true := by
  unfold letP gB
  rw [raw_L F ok oz.1 oz.2, List.all_eq_true]
  simp only [decide_eq_true_eq]
theorem met_P {bs cs : List Bn} (o1 : BsOk bs) (o2 : BsOk cs) {z : Nu × Nu} (oz : okP z) : letP p q z (rowsP bs ++ rowsP cs) ↔ letP p q z bs ∧ letP p q z cs := by
  have D0 : 0 < z.1.b * z.2.b := Int.mul_pos oz.1.1 oz.2.1
  unfold letP
  rw [letL_app, rows_L F o1 D0, rows_L F o2 D0]
theorem led_P {bs : List Bn} (ok : BsOk bs) (hb : ∀ x ∈ rowsP bs, 0 < x.b) {z y : Nu × Nu} (oz : okP z) (y1 : 0 < y.1.b) (y2 : 0 < y.2.b) (g1 : 0 < (plN z.1 y.1).b) (g2 : 0 < (plN z.2 y.2).b) :
    letP p q (plN z.1 y.1, plN z.2 y.2) ((rowsP bs).map (ledBn (lowT y.1.t y.1.r y.1.b) (lowR y.1.t y.1.r y.1.b) (lowB y.1.t y.1.r y.1.b) (lowT y.2.t y.2.r y.2.b) (lowR y.2.t y.2.r y.2.b) (lowB y.2.t y.2.r y.2.b))) ↔ letP p q z bs := by
  have D0 : 0 < z.1.b * z.2.b := Int.mul_pos oz.1.1 oz.2.1
  unfold letP
  rw [← rows_L F ok D0]
  exact letL_map fun x hx => led_L F (hb x hx) oz.1.1 oz.2.1 y1 y2 g1 g2
omit F in
theorem tm_neg {g z : Nu} : Lq p q (tmN ⟨-g.t, -g.r, g.b⟩ z).t (tmN ⟨-g.t, -g.r, g.b⟩ z).r = - Lq p q (tmN g z).t (tmN g z).r := by
  unfold Lq tmN
  dsimp only
  grind
theorem gro_P {bs : List Bn} (ok : BsOk bs) (hx : ∀ x ∈ rowsP bs, x.d < 8 ∧ 0 < x.b ∧ Bw 400 x.t ∧ Bw 400 x.r ∧ Bw 300 x.b) {z : Nu × Nu} {g : Nu} (oz : okP z) (og : Nu.ok 3 3 g) (sg : sg2 g.t g.r ≠ 0) :
    letP p q (tmN g z.1, tmN g z.2) (growL (lowT g.t g.r g.b) (lowR g.t g.r g.b) (lowB g.t g.r g.b) (rowsP bs)) ↔ letP p q z bs := by
  have D0 : 0 < z.1.b * z.2.b := Int.mul_pos oz.1.1 oz.2.1
  unfold letP
  rw [← rows_L F ok D0]
  obtain ⟨s, hs, e1, e2, e3⟩ := low_pos (t := g.t) (r := g.r) og.1
  have lp := (low_is (t := g.t) (r := g.r) (Int.ne_of_gt og.1)).pos
  have nl := F.neg (t := lowT g.t g.r g.b) (r := lowR g.t g.r g.b) (((bw_lows og.1 og.2.1 og.2.2.1 og.2.2.2).2.1).mono (by decide))
  have le := F.le (t := g.t) (r := g.r) (og.2.2.1.mono (by decide))
  have ng := F.neg (t := g.t) (r := g.r) (og.2.2.1.mono (by decide))
  obtain ⟨s', hs', eL, eB⟩ := low_L F (t := g.t) (r := g.r) og.1
  unfold growL
  by_cases hn : sgn (lowT g.t g.r g.b) (lowR g.t g.r g.b) < 0
  · rw [if_pos hn]
    have gn : Lq p q g.t g.r < 0 := by
      rw [eL]
      exact Int.mul_neg_of_neg_of_pos (nl.mp hn) hs'
    obtain ⟨s2, hs2, f1, f2, f3⟩ := low_pos (t := -lowT g.t g.r g.b) (r := -lowR g.t g.r g.b) lp
    have fp := (low_is (t := -lowT g.t g.r g.b) (r := -lowR g.t g.r g.b) (Int.ne_of_gt lp)).pos
    refine letL_map fun x h => ?_
    obtain ⟨d8, xb, wt, wr, wb⟩ := hx x h
    have k := gro_L F (g := ⟨-g.t, -g.r, g.b⟩) (s := s2 * s) (ft := lowT (-lowT g.t g.r g.b) (-lowR g.t g.r g.b) (lowB g.t g.r g.b)) (fr := lowR (-lowT g.t g.r g.b) (-lowR g.t g.r g.b) (lowB g.t g.r g.b)) (fb := lowB (-lowT g.t g.r g.b) (-lowR g.t g.r g.b) (lowB g.t g.r g.b)) d8 xb oz.1.1 oz.2.1 og.1 (Int.mul_pos hs2 hs) fp
      (by show -g.t = _; rw [← Int.mul_assoc, ← f1, Int.neg_mul, ← e1]) (by show -g.r = _; rw [← Int.mul_assoc, ← f2, Int.neg_mul, ← e2]) (by show g.b = _; rw [← Int.mul_assoc, ← f3, ← e3]) (by show 0 < Lq p q (-g.t) (-g.r); rw [show Lq p q (-g.t) (-g.r) = - Lq p q g.t g.r by unfold Lq; grind]; omega)
      (og.2.1.neg.mono (by decide)) (og.2.2.1.neg.mono (by decide)) oz.1 oz.2 wt wr wb
    rw [← k, tm_neg, tm_neg]
    have o := sD_opp F (A := Lq p q (tmN g z.1).t (tmN g z.1).r * (tmN g z.2).b) (C := Lq p q (tmN g z.2).t (tmN g z.2).r * (tmN g z.1).b) d8
    show sD _ _ (oppD x.d) * _ < _ ↔ _
    rw [o]
    have e : sD (-Lq p q (tmN g z.1).t (tmN g z.1).r * (tmN ⟨-g.t, -g.r, g.b⟩ z.2).b) (-Lq p q (tmN g z.2).t (tmN g z.2).r * (tmN ⟨-g.t, -g.r, g.b⟩ z.1).b) x.d = - sD (Lq p q (tmN g z.1).t (tmN g z.1).r * (tmN g z.2).b) (Lq p q (tmN g z.2).t (tmN g z.2).r * (tmN g z.1).b) x.d := by
      show sD (-Lq p q (tmN g z.1).t (tmN g z.1).r * (tmN g z.2).b) (-Lq p q (tmN g z.2).t (tmN g z.2).r * (tmN g z.1).b) x.d = _
      unfold sD
      grind
    rw [e]
    exact Iff.rfl
  · rw [if_neg hn]
    have gp : 0 < Lq p q g.t g.r := by
      rcases Int.lt_trichotomy (Lq p q g.t g.r) 0 with h | h | h
      · refine absurd (nl.mpr ?_) hn
        rw [eL] at h
        exact Int.neg_of_mul_neg_right (by rw [Int.mul_comm]; exact h) (by omega)
      · exfalso
        have hr : (g.r.natAbs : Int) < q := by
          refine Int.lt_trans ?_ F.far
          rw [show ((2 : Int) ^ 3000) = ((2 ^ 3000 : Nat) : Int) from (Int.natCast_pow 2 3000).symm]
          exact Int.ofNat_lt.mpr (og.2.2.1.mono (show 3 ≤ 3000 by decide))
        obtain ⟨a, b⟩ := (sg2_pell (t := g.t) F.pell hr).2.2 h
        rw [a, b] at sg
        exact sg (by decide)
      · exact h
    refine letL_map fun x h => ?_
    obtain ⟨d8, xb, wt, wr, wb⟩ := hx x h
    exact gro_L F (g := g) (s := s) d8 xb oz.1.1 oz.2.1 og.1 hs lp e1 e2 e3 gp (og.2.1.mono (by decide)) (og.2.2.1.mono (by decide)) oz.1 oz.2 wt wr wb
theorem one_P {x : Bn} (ok : rwOk x) {z : Nu × Nu} (oz : okP z) : letP p q z [lowN x] ↔ cmN (alN x.d z.1 z.2) (nuB x) < 0 := by
  have := raw_P F (xs := [x]) (fun y hy => by rw [List.mem_singleton.mp hy]; exact ok) oz
  rw [show [lowN x] = [x].map lowN from rfl, this]
  simp [gB]
theorem neg_P {x : Bn} (ok : rwOk x) {z : Nu × Nu} (oz : okP z) : letP p q z [negBn (lowN x)] ↔ 0 < cmN (alN x.d z.1 z.2) (nuB x) := by
  have lp := (low_is (t := x.t) (r := x.r) (Int.ne_of_gt ok.2.1)).pos
  unfold letP
  rw [neg_L F (x := lowN x) ok.1 lp, lets_P F ok.1 oz.1 oz.2 ok.2]
  obtain ⟨s, hs, e1, e2⟩ := low_L F (t := x.t) (r := x.r) (b := x.b) ok.2.1
  show Lq p q (lowT x.t x.r x.b) (lowR x.t x.r x.b) * _ < sD _ _ x.d * lowB x.t x.r x.b ↔ Lq p q x.t x.r * _ < _ * x.b
  generalize sD (Lq p q z.1.t z.1.r * z.2.b) (Lq p q z.2.t z.2.r * z.1.b) x.d = m at *
  rw [e1]
  generalize Lq p q (lowT x.t x.r x.b) (lowR x.t x.r x.b) = L at *
  generalize lowB x.t x.r x.b = c at *
  rw [e2, show m * (c * s) = m * c * s by grind, show L * s * (z.1.b * z.2.b) = L * (z.1.b * z.2.b) * s by grind, lt_mul hs]
theorem app_P {bs : List Bn} (o1 : BsOk bs) {z : Nu × Nu} (oz : okP z) {y : Bn} : letP p q z (rowsP bs ++ [y]) ↔ letP p q z bs ∧ letP p q z [y] := by
  have D0 : 0 < z.1.b * z.2.b := Int.mul_pos oz.1.1 oz.2.1
  unfold letP
  rw [letL_app, rows_L F o1 D0]
end
theorem hasP {p q : Int} (F : Far p q) {bs : List Bn} (ok : BsOk bs) {z : Nu × Nu} (oz : okP z) {b : Bool} (h : letP p q z bs ↔ b = true) : (rowsP bs).all (letN z) = b := by
  rw [Bool.eq_iff_iff, has_L F ok oz.1 oz.2]
  exact h
theorem met_due {xs ys : List Bn} (okA : ∀ x ∈ xs, rwOk x) (okB : ∀ x ∈ ys, rwOk x) (b1 : BsOk (xs.map lowN)) (b2 : BsOk (ys.map lowN)) (bk : BsOk (rowsP (xs.map lowN) ++ rowsP (ys.map lowN))) {z : Nu × Nu} (oz : okP z) : (rowsP (rowsP (xs.map lowN) ++ rowsP (ys.map lowN))).all (letN z) = (gB xs z && gB ys z) := by
  obtain ⟨p, q, F⟩ := far_ex
  refine hasP F bk oz ?_
  rw [met_P F b1 b2 oz, raw_P F okA oz, raw_P F okB oz, Bool.and_eq_true]
theorem led_due {xs : List Bn} (okA : ∀ x ∈ xs, rwOk x) (b1 : BsOk (xs.map lowN)) (hb : ∀ x ∈ rowsP (xs.map lowN), 0 < x.b) {z y : Nu × Nu} (oz : okP z) (y1 : 0 < y.1.b) (y2 : 0 < y.2.b) (oz' : okP (plN z.1 y.1, plN z.2 y.2))
    (bk : BsOk ((rowsP (xs.map lowN)).map (ledBn (lowT y.1.t y.1.r y.1.b) (lowR y.1.t y.1.r y.1.b) (lowB y.1.t y.1.r y.1.b) (lowT y.2.t y.2.r y.2.b) (lowR y.2.t y.2.r y.2.b) (lowB y.2.t y.2.r y.2.b)))) :
    (rowsP ((rowsP (xs.map lowN)).map (ledBn (lowT y.1.t y.1.r y.1.b) (lowR y.1.t y.1.r y.1.b) (lowB y.1.t y.1.r y.1.b) (lowT y.2.t y.2.r y.2.b) (lowR y.2.t y.2.r y.2.b) (lowB y.2.t y.2.r y.2.b)))).all (letN (plN z.1 y.1, plN z.2 y.2)) = gB xs z := by
  obtain ⟨p, q, F⟩ := far_ex
  refine hasP F bk oz' ?_
  rw [led_P F b1 hb oz y1 y2 oz'.1.1 oz'.2.1, raw_P F okA oz]
theorem gro_due {xs : List Bn} (okA : ∀ x ∈ xs, rwOk x) (b1 : BsOk (xs.map lowN)) (hx : ∀ x ∈ rowsP (xs.map lowN), x.d < 8 ∧ 0 < x.b ∧ Bw 400 x.t ∧ Bw 400 x.r ∧ Bw 300 x.b) {z : Nu × Nu} {g : Nu} (oz : okP z) (og : Nu.ok 3 3 g) (sg : sg2 g.t g.r ≠ 0) (oz' : okP (tmN g z.1, tmN g z.2))
    (bk : BsOk (growL (lowT g.t g.r g.b) (lowR g.t g.r g.b) (lowB g.t g.r g.b) (rowsP (xs.map lowN)))) :
    (rowsP (growL (lowT g.t g.r g.b) (lowR g.t g.r g.b) (lowB g.t g.r g.b) (rowsP (xs.map lowN)))).all (letN (tmN g z.1, tmN g z.2)) = gB xs z := by
  obtain ⟨p, q, F⟩ := far_ex
  refine hasP F bk oz' ?_
  rw [gro_P F b1 hx oz og sg, raw_P F okA oz]
theorem p1_due {xs : List Bn} (okA : ∀ x ∈ xs, rwOk x) (b1 : BsOk (xs.map lowN)) {x : Bn} (ok : rwOk x) (bk : BsOk (rowsP (xs.map lowN) ++ [lowN x])) {z : Nu × Nu} (oz : okP z) : (rowsP (rowsP (xs.map lowN) ++ [lowN x])).all (letN z) = (gB xs z && decide (cmN (alN x.d z.1 z.2) (nuB x) < 0)) := by
  obtain ⟨p, q, F⟩ := far_ex
  refine hasP F bk oz ?_
  rw [app_P F b1 oz, raw_P F okA oz, one_P F ok oz, Bool.and_eq_true, decide_eq_true_iff]
theorem p2_due {xs : List Bn} (okA : ∀ x ∈ xs, rwOk x) (b1 : BsOk (xs.map lowN)) {x : Bn} (ok : rwOk x) (bk : BsOk (rowsP (xs.map lowN) ++ [negBn (lowN x)])) {z : Nu × Nu} (oz : okP z) : (rowsP (rowsP (xs.map lowN) ++ [negBn (lowN x)])).all (letN z) = (gB xs z && decide (0 < cmN (alN x.d z.1 z.2) (nuB x))) := by
  obtain ⟨p, q, F⟩ := far_ex
  refine hasP F bk oz ?_
  rw [app_P F b1 oz, raw_P F okA oz, neg_P F ok oz, Bool.and_eq_true, decide_eq_true_iff]
/-! sums of parts by whole numbers -/
def sumL (l : List (Int × Int)) (n : Nat → Int) : Int := match l with
  | [] => 0
  | x :: l => x.2 * n x.1.toNat + sumL l n
/-- presence and values of the numbers of eight directions -/
def nv (p q : Int) (ps : List (Option (Int × Int))) (d : Nat) : Int := match ps.getD d none with
  | none => 0
  | some r => Lq p q r.1 r.2
theorem psum_sum {p q : Int} {ps : List (Option (Int × Int))} : ∀ {l : List (Int × Int)} {acc r : Int × Int}, psum ps l acc = some r → Lq p q r.1 r.2 = Lq p q acc.1 acc.2 + sumL l (nv p q ps) ∧ ∀ x ∈ l, (ps.getD x.1.toNat none).isSome = true
  | [], acc, r, e => by
    cases e
    exact ⟨by simp [sumL], fun x h => by cases h⟩
  | x :: l, acc, r, e => by
    rw [psum] at e
    cases hq : ps.getD x.1.toNat none with
    | none => rw [hq] at e; cases e
    | some pr =>
      rw [hq] at e
      obtain ⟨i1, i2⟩ := psum_sum (p := p) (q := q) e
      refine ⟨?_, fun y hy => ?_⟩
      · have v : nv p q ps x.1.toNat = Lq p q pr.1 pr.2 := by unfold nv; rw [hq]
        rw [i1, sumL, v]
        simp only [Lq]
        grind
      · rcases List.mem_cons.mp hy with rfl | hy
        · rw [hq]; rfl
        · exact i2 y hy
theorem psum_ex {ps : List (Option (Int × Int))} : ∀ {l : List (Int × Int)} {acc : Int × Int}, (∀ x ∈ l, (ps.getD x.1.toNat none).isSome = true) → ∃ r, psum ps l acc = some r
  | [], acc, _ => ⟨acc, rfl⟩
  | x :: l, acc, h => by
    obtain ⟨pr, e⟩ := Option.isSome_iff_exists.mp (h x (List.mem_cons_self ..))
    rw [psum, e]
    exact psum_ex fun y hy => h y (List.mem_cons_of_mem _ hy)
/-! the law's own least numbers, and whether they bar all points -/
theorem k_forR2 {g : TG} {tb : TS} {σ : L2.St} {H : Hp} {nx bk ct : L2.St → Hp → Prop} {rt : VK} {lo hi : Int} (Pv : Nat → L2.St → Hp → Prop) (h1 : -(2 ^ 62) ≤ lo ∧ lo < 2 ^ 62 ∧ -(2 ^ 62) ≤ hi ∧ hi < 2 ^ 62) (h0 : Pv 0 σ H)
    (hs : ∀ i σ H, i < (hi - lo).toNat → Pv i σ H → g (.int (lo + (i : Nat))) σ H fun σ2 H2 => tb ⟨Pv (i + 1), rt, nx, Pv (i + 1)⟩ σ2 H2) (hd : ∀ σ H, Pv (hi - lo).toNat σ H → nx σ H) : ForR2 g tb ⟨nx, rt, bk, ct⟩ σ [.int lo, .int hi] H :=
  ⟨lo, hi, rfl, h1, for_range (lo := lo) (n := (hi - lo).toNat) Pv h0 hs hd⟩
theorem LsAt.set {α : Type} {R : Hp → V → α → Prop} {H : Hp} {zs : List V} {ns : List α} {z : V} {o : α} (h : LsAt R H zs ns) (k : R H z o) (d : Nat) : LsAt R H (zs.set d z) (ns.set d o) := by
  refine ⟨by simp [h.1], fun i y p h1 h2 => ?_⟩
  rw [List.getElem?_set] at h1 h2
  split at h1
  · rename_i e
    subst e
    rw [if_pos rfl] at h2
    split at h1
    · rename_i l
      cases h1
      rw [if_pos (by rw [← h.1]; exact l)] at h2
      cases h2
      exact k
    · cases h1
  · rename_i e
    rw [if_neg e] at h2
    exact h.2 i y p h1 h2
def NuO (H : Hp) (z : V) : Option Nu → Prop
  | none => z = .non
  | some n => N3At H z n
theorem NuO.kps {H H' : Hp} {z : V} {o : Option Nu} (h : NuO H z o) (s : Kps H H') : NuO H' z o := by
  cases o with
  | none => exact h
  | some n => exact N3At.kps h s
def crs (d e : Nat) : Int := vx d * vy e - vy d * vx e
def lsStep (ls : List (Option Nu)) (x : Bn) : List (Option Nu) := match ls.getD x.d none with
  | none => ls.set x.d (some (nuB x))
  | some m => if cmN (nuB x) m < 0 then ls.set x.d (some (nuB x)) else ls
def lsF (xs : List Bn) : List (Option Nu) := xs.foldl lsStep (List.replicate 8 none)
theorem lsStep_len {ls : List (Option Nu)} {x : Bn} : (lsStep ls x).length = ls.length := by
  unfold lsStep
  split
  · simp
  · split <;> simp
theorem lsFold_len : ∀ {xs : List Bn} {ls : List (Option Nu)}, (xs.foldl lsStep ls).length = ls.length
  | [], _ => rfl
  | x :: xs, ls => by rw [List.foldl_cons, lsFold_len, lsStep_len]
def rw2 (x : Bn) : Prop := x.d < 8 ∧ Nu.ok 200 90 (nuB x)
theorem rwOk.wide {xs : List Bn} (h : ∀ x ∈ xs, rwOk x) : ∀ x ∈ xs, rw2 x := fun x hx => ⟨(h x hx).1, (h x hx).2.mono (by decide) (by decide)⟩
theorem rw2.l {xs : List Bn} (h : ∀ x ∈ xs, rw2 x) : ∀ x ∈ xs, rwL x := fun x hx => ⟨(h x hx).1, (h x hx).2.mono (by decide) (by decide)⟩
def okLs (ls : List (Option Nu)) : Prop := ∀ o ∈ ls, ∀ n, o = some n → Nu.ok 200 90 n
theorem lsStep_ok {ls : List (Option Nu)} {x : Bn} (h : okLs ls) (hx : rw2 x) : okLs (lsStep ls x) := by
  have s : okLs (ls.set x.d (some (nuB x))) := fun o ho n e => by
    rcases List.mem_or_eq_of_mem_set ho with h' | h'
    · exact h o h' n e
    · rw [e] at h'
      cases h'
      exact hx.2
  unfold lsStep
  split
  · exact s
  · split
    · exact s
    · exact h
theorem lsFold_ok : ∀ {xs : List Bn} {ls : List (Option Nu)}, okLs ls → (∀ x ∈ xs, rw2 x) → okLs (xs.foldl lsStep ls)
  | [], _, h, _ => h
  | x :: xs, ls, h, hx => by
    rw [List.foldl_cons]
    exact lsFold_ok (lsStep_ok h (hx x (List.mem_cons_self ..))) fun y hy => hx y (List.mem_cons_of_mem _ hy)
theorem ok0 : okLs (List.replicate 8 none) := fun o ho n e => by
  rw [List.eq_of_mem_replicate ho] at e
  cases e
theorem lsF_ok {xs : List Bn} (hx : ∀ x ∈ xs, rw2 x) : okLs (lsF xs) := lsFold_ok ok0 hx
theorem lsF_len {xs : List Bn} : (lsF xs).length = 8 := by
  unfold lsF
  rw [lsFold_len]
  rfl
theorem okLs.at {ls : List (Option Nu)} (h : okLs ls) {d : Nat} {n : Nu} (e : ls.getD d none = some n) : Nu.ok 200 90 n := by
  rw [List.getD_eq_getElem?_getD] at e
  cases hx : ls[d]? with
  | none => rw [hx] at e; cases e
  | some o => rw [hx] at e; exact h o (List.mem_of_getElem? hx) n e
/-- a sum of parts by the law's numbers -/
def totN (ls : List (Option Nu)) : List (Int × Int) → Nu → Option Nu
  | [], acc => some acc
  | x :: l, acc => match ls.getD x.1.toNat none with
    | none => none
    | some n => totN ls l (plN acc (scN x.2 n))
def PrI (H : Hp) (v : V) (x : Int × Int) : Prop := ∃ p, v = .ref p ∧ H p = some (.tup [.int x.1, .int x.2])
theorem PrI.kps {H H' : Hp} {v : V} {x : Int × Int} (h : PrI H v x) (s : Kps H H') : PrI H' v x := by
  obtain ⟨p, rfl, e⟩ := h
  exact ⟨p, rfl, s.tup e⟩
theorem scN_okG {m k j : Nat} {c : Int} {x : Nu} (h : Nu.ok m k x) (hc : Bw j c) : Nu.ok (m + j) k (scN c x) := ⟨h.1, (hc.mul h.2.1).mono (by omega), (hc.mul h.2.2.1).mono (by omega), h.2.2.2⟩
theorem crs_bw {d e : Nat} (hd : d < 8) (he : e < 8) : Bw 2 (crs d e) := by
  have : ∀ d, d < 8 → ∀ e, e < 8 → (crs d e).natAbs < 2 ^ 2 := by decide +kernel
  exact this d hd e he
abbrev s__law_cross : Stmt := top 48
theorem sc__law_cross : FnScope ["one", "other", "x", "y"] ["one", "other"] (defScope s__law_cross) := ⟨rfl, rfl, rfl, by decide +kernel, rfl, by decide +kernel, by decide +kernel⟩

def sp__law_cross (Z : Zs) : Sp := fun vs H Q E =>
  ∃ d e : Nat, vs = [.int d, .int e] ∧ d < 8 ∧ e < 8 ∧ ∀ H', Same H H' → Q (.int (crs d e)) H'
theorem ok__law_cross (T : Txt Z mg) (h__law_vector : Has P w Z.K mg base "_law_vector" 1 ["way"] (sp__law_vector Z)) (D : AtF Z.K mg "_law_cross" "_law_cross" s__law_cross ["one", "other"]) : Has P w Z.K mg base "_law_cross" 2 ["one", "other"] (sp__law_cross Z) := by
  refine D.ok sc__law_cross (fun vs H Q E h => ?_) (fun cdv A outer s H vs Q E hr h => ?_)
  · obtain ⟨d, e, rfl, _⟩ := h
    rfl
  · refine ⟨_, (pss_cons (ps_asg (pe_h (E := ED E) h__law_vector hr (paW (takes_of rfl rfl rfl rfl)) (pa_cons (pv 0) pa_nil)) (pg_tup rfl (pgs_cons (pg_name (i := 2) sc__law_cross.nd rfl (Or.inl rfl)) (pgs_cons (pg_name (i := 3) sc__law_cross.nd rfl (Or.inl rfl)) pgs_nil))))
      (pss_one (ps_ret (pe_op op_sub (pe_op op_mulS (pv 2) (pe_ix ix_seq (pe_h (E := ED E) h__law_vector hr (paW (takes_of rfl rfl rfl rfl)) (pa_cons (pv 1) pa_nil)) pe_int (fun _ _ => rfl))) (pe_op op_mulS (pv 3) (pe_ix ix_seq (pe_h (E := ED E) h__law_vector hr (paW (takes_of rfl rfl rfl rfl)) (pa_cons (pv 1) pa_nil)) pe_int (fun _ _ => rfl))))))), ?_⟩
    try simp only [cxOf]
    obtain ⟨d, e, rfl, hd, he, q⟩ := h
    obtain ⟨v1, v2⟩ := v_bw hd
    obtain ⟨w1, w2⟩ := v_bw he
    walk_at "W"
    refine ⟨d, rfl, hd, fun u1 H1 s1 e1 => ?_⟩
    walk_at "W"
    refine k_tup2S (SqT.of e1) rfl rfl ?_
    walk_at "W"
    refine ⟨e, rfl, he, fun u2 H2 s2 e2 => ?_⟩
    walk_at "W"
    refine w_I (bwm v1 w2 (by decide)) ?_
    walk_at "W"
    refine ⟨e, rfl, he, fun u3 H3 s3 e3 => ?_⟩
    walk_at "W"
    refine w_I (bwm v2 w1 (by decide)) ?_
    walk_at "W"
    exact q H3 (s1.trans (s2.trans s3))
abbrev s__law_least : Stmt := top 41
theorem sc__law_least : FnScope ["rows", "least", "way", "number"] ["rows"] (defScope s__law_least) := ⟨rfl, rfl, rfl, by decide +kernel, rfl, by decide +kernel, by decide +kernel⟩

def sp__law_least (Z : Zs) : Sp := fun vs H Q E =>
  ∃ (a : Addr) (ws : List V) (xs : List Bn), vs = [.ref a] ∧ H a = some (.lst ws) ∧ LsAt RwAt H ws xs ∧ (∀ x ∈ xs, rw2 x) ∧ xs.length ≤ 400 ∧ ∀ u zs H', H u = none → Same H H' → H' u = some (.lst zs) → LsAt NuO H' zs (lsF xs) → Q (.ref u) H'
theorem ok__law_least (T : Txt Z mg) (h__law_compare : Has P w Z.K mg base "_law_compare" 2 ["one", "other"] (sp__law_compare Z)) (D : AtF Z.K mg "_law_least" "_law_least" s__law_least ["rows"]) : Has P w Z.K mg base "_law_least" 3 ["rows"] (sp__law_least Z) := by
  refine D.ok sc__law_least (fun vs H Q E h => ?_) (fun cdv A outer s H vs Q E hr h => ?_)
  · obtain ⟨a, ws, xs, rfl, _⟩ := h
    rfl
  · refine ⟨_, (pss_cons (ps_set (i := 1) sc__law_least.nd rfl (Or.inl rfl) (pe_op op_rep (pe_lst (pa_cons pe_non pa_nil)) pe_int))
      (pss_cons (ps_for (passes_of rfl) rfl (pi_list (pv 0)) (pg_tup rfl (pgs_cons (pg_name (i := 2) sc__law_least.nd rfl (Or.inl rfl)) (pgs_cons (pg_name (i := 3) sc__law_least.nd rfl (Or.inl rfl)) pgs_nil))) (pss_one (ps_if (PW.pt (pw_or (pt_cmpR op_isN (pe_ix ix_seq (pv 1) (pv 2) (fun _ _ => rfl)) pe_non (nomark _)) (pw_or1 (pt_cmpR op_lt (pe_h (E := ED E) h__law_compare hr (paW (takes_of rfl rfl rfl rfl)) (pa_cons (pv 3) (pa_cons (pe_ix ix_seq (pv 1) (pv 2) (fun _ _ => rfl)) pa_nil))) pe_int (nomark _))))) (pss_one (ps_asg (pv 3) (pg_sub (pv 1) (pv 2) set_list))) pss_nil)))
      (pss_one (ps_ret (pv 1))))), ?_⟩
    try simp only [cxOf]
    obtain ⟨a, ws, xs, rfl, ea, lr, ok, l4, q⟩ := h
    walk_at "W"
    refine k_lst rfl fun l0 H1 hl0 s1 e1 => ?_
    walk_at "W"
    refine w_rep e1 (by decide) (by decide) rfl fun u H2 hu s2 e2 => ?_
    have e2 : H2 u = some (.lst (List.replicate 8 .non)) := e2
    have S2 := s1.trans s2
    have nu : ∀ {b : Addr} {o : HO}, H b = some o → b ≠ u := fun h z => by rw [z] at h; rw [s1 _ _ h] at hu; cases hu
    have hu0 : H u = none := by
      cases hq : H u with
      | none => rfl
      | some o => rw [s1 _ _ hq] at hu; cases hu
    have ea2 := S2 _ _ ea
    have lr2 := lr.imp fun v x r => r.kps (Kps.same S2)
    have nau := nu ea
    have nul : ∀ (i : Nat) v, ws[i]? = some v → ∀ p, v = .ref p → p ≠ u := fun i v hv p e => by
      obtain ⟨x, ex, p', y, rfl, ep, -⟩ := lr.get hv
      cases e
      exact nu ep
    walk_at "W"
    refine k_forL (xs := ws) (fun i σ' H' => (∃ z1 z2, σ' = [some (.ref a), some (.ref u), z1, z2]) ∧ SameX u H2 H' ∧ ∃ zs, H' u = some (.lst zs) ∧ LsAt NuO H' zs ((xs.take i).foldl lsStep (List.replicate 8 none))) (SqL.of ea2) ⟨⟨_, _, rfl⟩, fun _ _ _ e => e, _, e2, ⟨by simp, fun i v o h1 h2 => ?_⟩⟩ (fun i σ' H' h => SqL.of (h.2.1 _ _ nau ea2)) ?_ ?_
    · rw [List.take_zero] at h2
      have h2' : (List.replicate 8 (none : Option Nu))[i]? = some o := h2
      rw [List.getElem?_replicate] at h1 h2'
      split at h1
      · rw [if_pos (by assumption)] at h2'
        cases h1
        cases h2'
        rfl
      · cases h1
    · rintro i y σ' H3 hy ⟨⟨z1, z2, rfl⟩, x3, zs, ez, bz⟩
      have K23 : Kps H2 H3 := Kps.sx e2 x3
      obtain ⟨x, ex, hx⟩ := lr2.get hy
      obtain ⟨p, yn, rfl, ep, ny⟩ := hx.kps K23
      have okx := ok x (List.mem_of_getElem? ex)
      have tk : xs.take (i + 1) = xs.take i ++ [x] := by rw [List.take_add_one, ex]; rfl
      have fl : (xs.take (i + 1)).foldl lsStep (List.replicate 8 none) = lsStep ((xs.take i).foldl lsStep (List.replicate 8 none)) x := by rw [tk, List.foldl_append]; rfl
      rw [fl]
      have l8 : ((xs.take i).foldl lsStep (List.replicate 8 none)).length = 8 := by rw [lsFold_len]; rfl
      have okl := lsFold_ok (xs := xs.take i) ok0 (fun y hy => ok y (List.mem_of_mem_take hy))
      generalize (xs.take i).foldl lsStep (List.replicate 8 none) = ls at *
      have ed : ls[x.d]? = some (ls.getD x.d none) := by rw [List.getD_eq_getElem?_getD, List.getElem?_eq_getElem (by have := okx.1; omega)]; rfl
      obtain ⟨zv, ezv, hzv⟩ := bz.get' ed
      have ixd : ixN zs.length (x.d : Int) = some x.d := ixN_at (by rw [bz.1]; have := okx.1; omega)
      refine k_tupl2 ep rfl rfl ?_
      walk_at "W"
      refine w_ixL ez (atI_nat ezv) ?_
      walk_at "W"
      have fin : ∀ {H4 H5 : Hp}, Same H3 H4 → SameX u H4 H5 → H5 u = some (.lst (zs.set x.d yn)) → lsStep ls x = ls.set x.d (some (nuB x)) → SameX u H2 H5 ∧ ∃ zs, H5 u = some (.lst zs) ∧ LsAt NuO H5 zs (lsStep ls x) := fun {H4 H5} s4 x5 e5 e => by
        have K5 : Kps H3 H5 := (Kps.same s4).trans (Kps.sx (s4 _ _ ez) x5)
        refine ⟨fun b o n h => x5 _ _ n (s4 _ _ (x3 _ _ n h)), _, e5, ?_⟩
        rw [e]
        exact (bz.imp fun v o h => NuO.kps h K5).set (show NuO H5 yn (some (nuB x)) from ny.kps K5) x.d
      cases ho : ls.getD x.d none with
      | none =>
        rw [ho] at hzv
        cases hzv
        refine ⟨rfl, ?_⟩
        walk_at "W"
        refine w_setL ez ixd fun H5 x5 e5 => ?_
        exact ⟨⟨_, _, rfl⟩, fin (Same.refl _) x5 e5 (by unfold lsStep; rw [ho])⟩
      | some m =>
        rw [ho] at hzv
        have om := okl.at ho
        obtain ⟨pm, rfl, em⟩ := hzv
        refine ⟨rfl, ?_⟩
        walk_at "W"
        refine w_ixL ez (atI_nat ezv) ?_
        refine ⟨_, _, nuB x, m, rfl, ny, ⟨pm, rfl, em⟩, okx.2.mono (by decide) (by decide), om.mono (by decide) (by decide), fun H4 s4 => ?_⟩
        walk_at "W"
        by_cases hc : cmN (nuB x) m < 0
        · rw [decide_eq_true hc]
          walk_at "W"
          refine w_setL (s4 _ _ ez) ixd fun H5 x5 e5 => ?_
          exact ⟨⟨_, _, rfl⟩, fin s4 x5 e5 (by unfold lsStep; rw [ho]; exact if_pos hc)⟩
        · rw [decide_eq_false hc]
          walk_at "W"
          refine ⟨⟨_, _, rfl⟩, fun b o n h => s4 _ _ (x3 _ _ n h), zs, s4 _ _ ez, ?_⟩
          rw [show lsStep ls x = ls by unfold lsStep; rw [ho]; exact if_neg hc]
          exact bz.imp fun v o h => NuO.kps h (Kps.same s4)
    rintro σ' H3 ⟨⟨z1, z2, rfl⟩, x3, zs, ez, bz⟩
    rw [lr.1, List.take_length] at bz
    walk_at "W"
    exact q u zs H3 hu0 (fun b o e => x3 _ _ (nu e) (S2 _ _ e)) ez bz
/-! the law's least numbers are the program's, as values -/
section
variable {p q : Int} (F : Far p q)
include F
theorem lsFold_spec : ∀ {xs : List Bn} {ls : List (Option Nu)} {pre : List Bn}, (∀ x ∈ xs, rw2 x) → (∀ x ∈ pre, rw2 x) → ls.length = 8 →
    (∀ d, d < 8 → (ls.getD d none = none ∧ ∀ x ∈ pre, x.d ≠ d) ∨ ∃ y ∈ pre, y.d = d ∧ ls.getD d none = some (nuB y) ∧ ∀ x ∈ pre, x.d = d → Lq p q y.t y.r * x.b ≤ Lq p q x.t x.r * y.b) →
    ∀ d, d < 8 → ((xs.foldl lsStep ls).getD d none = none ∧ ∀ x ∈ pre ++ xs, x.d ≠ d) ∨ ∃ y ∈ pre ++ xs, y.d = d ∧ (xs.foldl lsStep ls).getD d none = some (nuB y) ∧ ∀ x ∈ pre ++ xs, x.d = d → Lq p q y.t y.r * x.b ≤ Lq p q x.t x.r * y.b
  | [], ls, pre, _, _, _, h => by simpa using h
  | x :: xs, ls, pre, hx, hp, l8, h => by
    have ox := hx x (List.mem_cons_self ..)
    have ih := lsFold_spec (xs := xs) (ls := lsStep ls x) (pre := pre ++ [x]) (fun y hy => hx y (List.mem_cons_of_mem _ hy)) (fun y hy => by
      rcases List.mem_append.mp hy with hy | hy
      · exact hp y hy
      · rw [List.mem_singleton.mp hy]; exact ox) (by rw [lsStep_len, l8])
    rw [List.foldl_cons]
    have e : pre ++ [x] ++ xs = pre ++ x :: xs := by simp
    rw [e] at ih
    refine ih fun d hd => ?_
    have keep : ls.getD d none = (lsStep ls x).getD d none ∨ x.d = d := by
      by_cases hxd : x.d = d
      · exact .inr hxd
      · refine .inl ?_
        have s : (ls.set x.d (some (nuB x))).getD d none = ls.getD d none := by rw [List.getD_eq_getElem?_getD, List.getElem?_set, if_neg hxd, ← List.getD_eq_getElem?_getD]
        unfold lsStep
        split
        · exact s.symm
        · split
          · exact s.symm
          · rfl
    have app : ∀ {P : Bn → Prop}, (∀ y ∈ pre, P y) → P x → ∀ y ∈ pre ++ [x], P y := fun {P} h1 h2 y hy => by
      rcases List.mem_append.mp hy with hy | hy
      · exact h1 y hy
      · rw [List.mem_singleton.mp hy]; exact h2
    by_cases hxd : x.d = d
    · have sets : (ls.set x.d (some (nuB x))).getD d none = some (nuB x) := by
        rw [List.getD_eq_getElem?_getD, List.getElem?_set, if_pos hxd, if_pos (by omega)]
        rfl
      rcases h d hd with ⟨hn, al⟩ | ⟨y, hy, yd, hs, al⟩
      · refine .inr ⟨x, by simp, hxd, ?_, app (P := fun z => z.d = d → _) (fun z hz zd => absurd zd (al z hz)) fun _ => Int.le_refl _⟩
        unfold lsStep
        rw [hxd, hn]
        rw [hxd] at sets
        exact sets
      · have oy := hp y hy
        have cl := cm_L F (x := nuB x) (y := nuB y) (ox.2.mono (by decide) (by decide)) (oy.2.mono (by decide) (by decide))
        by_cases hc : cmN (nuB x) (nuB y) < 0
        · have lt : Lq p q x.t x.r * y.b < Lq p q y.t y.r * x.b := cl.mp hc
          refine .inr ⟨x, by simp, hxd, ?_, app (P := fun z => z.d = d → _) (fun z hz zd => ?_) fun _ => Int.le_refl _⟩
          · unfold lsStep
            rw [hxd, hs]
            rw [hxd] at sets
            simp only
            rw [if_pos hc]
            exact sets
          · have h1 := al z hz zd
            have oz : 0 < z.b := (hp z hz).2.1
            have oxb : 0 < x.b := ox.2.1
            have oyb : 0 < y.b := oy.2.1
            have h2 := (lt_mul oz).mpr lt
            have h3 := (le_mul oxb).mpr h1
            refine (le_mul oyb).mp ?_
            have e1 : Lq p q x.t x.r * z.b * y.b = Lq p q x.t x.r * y.b * z.b := by grind
            have e2 : Lq p q z.t z.r * x.b * y.b = Lq p q z.t z.r * y.b * x.b := by grind
            have e3 : Lq p q y.t y.r * z.b * x.b = Lq p q y.t y.r * x.b * z.b := by grind
            omega
        · refine .inr ⟨y, List.mem_append_left _ hy, yd, ?_, app (P := fun z => z.d = d → _) al (fun _ => Int.not_lt.mp fun z => hc (cl.mpr z))⟩
          unfold lsStep
          rw [hxd, hs]
          simp only
          rw [if_neg hc]
          exact hs
    · rcases keep with k | k
      · rw [← k]
        rcases h d hd with ⟨hn, al⟩ | ⟨y, hy, yd, hs, al⟩
        · exact .inl ⟨hn, app (P := fun z => z.d ≠ d) al hxd⟩
        · exact .inr ⟨y, List.mem_append_left _ hy, yd, hs, app (P := fun z => z.d = d → _) al (fun z => absurd z hxd)⟩
      · exact absurd k hxd
theorem lsF_spec {xs : List Bn} (hx : ∀ x ∈ xs, rw2 x) {d : Nat} (hd : d < 8) : ((lsF xs).getD d none = none ∧ ∀ x ∈ xs, x.d ≠ d) ∨ ∃ y ∈ xs, y.d = d ∧ (lsF xs).getD d none = some (nuB y) ∧ ∀ x ∈ xs, x.d = d → Lq p q y.t y.r * x.b ≤ Lq p q x.t x.r * y.b := by
  have h := lsFold_spec F (xs := xs) (ls := List.replicate 8 none) (pre := []) hx (fun x h => by cases h) rfl (fun d hd => .inl ⟨by
      rw [List.getD_eq_getElem?_getD, List.getElem?_replicate]
      split <;> rfl, fun x h => by cases h⟩) d hd
  rw [List.nil_append] at h
  exact h
/-- the same value -/
theorem ls_link {xs : List Bn} (hx : ∀ x ∈ xs, rw2 x) (bk : BsOk (xs.map lowN)) {d : Nat} (hd : d < 8) :
    ((lsF xs).getD d none = none ∧ ((leastN (xs.map lowN)).map (prO (comB (leastN (xs.map lowN)) 1))).getD d none = none) ∨
    ∃ m pr, (lsF xs).getD d none = some m ∧ ((leastN (xs.map lowN)).map (prO (comB (leastN (xs.map lowN)) 1))).getD d none = some pr ∧ Lq p q pr.1 pr.2 * m.b = Lq p q m.t m.r * comB (leastN (xs.map lowN)) 1 := by
  have gd : ((leastN (xs.map lowN)).map (prO (comB (leastN (xs.map lowN)) 1))).getD d none = prO (comB (leastN (xs.map lowN)) 1) ((leastN (xs.map lowN)).getD d none) := by
    rw [List.getD_eq_getElem?_getD, List.getD_eq_getElem?_getD, List.getElem?_map]
    cases (leastN (xs.map lowN))[d]? <;> rfl
  rw [gd]
  obtain ⟨n8, okO⟩ := leastN_ok bk.1
  obtain ⟨B1, -, B4⟩ := comB_ok okO (B := 1) (by decide)
  rcases leastN_spec F bk.1 hd with ⟨e, al⟩ | ⟨y', e, hm, yd, al⟩
  · rw [e]
    rcases lsF_spec F hx hd with ⟨e', -⟩ | ⟨y, hy, yd, -, -⟩
    · exact .inl ⟨e', rfl⟩
    · exact absurd yd (al (lowN y) (List.mem_map_of_mem hy))
  · rw [e]
    obtain ⟨y0, hy0, rfl⟩ := List.mem_map.mp hm
    rcases lsF_spec F hx hd with ⟨-, al'⟩ | ⟨y, hy, yd', e', al'⟩
    · exact absurd yd (al' y0 hy0)
    · refine .inr ⟨nuB y, _, e', rfl, ?_⟩
      have mm : some (lowN y0) ∈ leastN (xs.map lowN) := by
        rw [List.getD_eq_getElem?_getD] at e
        cases hx' : (leastN (xs.map lowN))[d]? with
        | none => rw [hx'] at e; cases e
        | some o => rw [hx'] at e; rw [← show o = some (lowN y0) from e]; exact List.mem_of_getElem? hx'
      have bp := (okO _ mm _ rfl).2.1
      obtain ⟨k, hk⟩ := B4 _ mm
      have dv : comB (leastN (xs.map lowN)) 1 / (lowN y0).b = k := by rw [hk, Int.mul_ediv_cancel_left _ (by omega)]
      have oy := hx y hy
      have oy0 := hx y0 hy0
      obtain ⟨s, hs, l1, l2⟩ := low_L F (t := y0.t) (r := y0.r) (b := y0.b) oy0.2.1
      obtain ⟨s', hs', l1', l2'⟩ := low_L F (t := y.t) (r := y.r) (b := y.b) oy.2.1
      have h1 := al' y0 hy0 yd
      have h2 := al (lowN y) (List.mem_map_of_mem hy) yd'
      show Lq p q ((lowN y0).t * (comB (leastN (xs.map lowN)) 1 / (lowN y0).b)) ((lowN y0).r * (comB (leastN (xs.map lowN)) 1 / (lowN y0).b)) * y.b = Lq p q y.t y.r * comB (leastN (xs.map lowN)) 1
      rw [dv]
      generalize comB (leastN (xs.map lowN)) 1 = B at *
      subst hk
      replace h2 : Lq p q (lowT y0.t y0.r y0.b) (lowR y0.t y0.r y0.b) * lowB y.t y.r y.b ≤ Lq p q (lowT y.t y.r y.b) (lowR y.t y.r y.b) * lowB y0.t y0.r y0.b := h2
      show Lq p q (lowT y0.t y0.r y0.b * k) (lowR y0.t y0.r y0.b * k) * y.b = Lq p q y.t y.r * (lowB y0.t y0.r y0.b * k)
      rw [show Lq p q (lowT y0.t y0.r y0.b * k) (lowR y0.t y0.r y0.b * k) = Lq p q (lowT y0.t y0.r y0.b) (lowR y0.t y0.r y0.b) * k by unfold Lq; grind]
      generalize Lq p q (lowT y0.t y0.r y0.b) (lowR y0.t y0.r y0.b) = L0 at *
      generalize Lq p q (lowT y.t y.r y.b) (lowR y.t y.r y.b) = L at *
      generalize lowB y0.t y0.r y0.b = b0 at *
      generalize lowB y.t y.r y.b = b at *
      rw [l1, l1', l2, l2'] at h1
      rw [l1', l2']
      have h3 : L * b0 ≤ L0 * b := by
        refine (le_mul (Int.mul_pos hs hs')).mp ?_
        rw [show L * b0 * (s * s') = L * s' * (b0 * s) by grind, show L0 * b * (s * s') = L0 * s * (b * s') by grind]
        exact h1
      have h4 : L0 * b = L * b0 := by omega
      rw [show L0 * k * (b * s') = L0 * b * (k * s') by grind, h4]
      grind
/-- the law's sums, as values -/
theorem tot_val {B : Int} {ls : List (Option Nu)} {ps : List (Option (Int × Int))} (okl : okLs ls) (lk : ∀ d, d < 8 → (ls.getD d none = none ∧ ps.getD d none = none) ∨ ∃ m pr, ls.getD d none = some m ∧ ps.getD d none = some pr ∧ Lq p q pr.1 pr.2 * m.b = Lq p q m.t m.r * B) :
    ∀ {l : List (Int × Int)} {acc n : Nu}, (∀ x ∈ l, 0 ≤ x.1 ∧ x.1 ≤ 7) → 0 < acc.b → totN ls l acc = some n → 0 < n.b ∧ Lq p q n.t n.r * B * acc.b = (Lq p q acc.t acc.r * B + sumL l (nv p q ps) * acc.b) * n.b ∧ ∀ x ∈ l, (ps.getD x.1.toNat none).isSome = true
  | [], acc, n, _, ha, e => by
    cases e
    exact ⟨ha, by simp [sumL], fun x h => by cases h⟩
  | x :: l, acc, n, hl, ha, e => by
    have hx := hl x (List.mem_cons_self ..)
    rw [totN] at e
    rcases lk x.1.toNat (by omega) with ⟨e1, -⟩ | ⟨m, pr, e1, e2, e3⟩
    · rw [e1] at e; cases e
    · rw [e1] at e
      have om := okl.at e1
      have pb : 0 < (plN acc (scN x.2 m)).b := by
        unfold plN
        split
        · exact ha
        · exact Int.mul_pos ha om.1
      obtain ⟨n0, i1, i2⟩ := tot_val okl lk (l := l) (fun y hy => hl y (List.mem_cons_of_mem _ hy)) pb e
      have pl := pl_L (p := p) (q := q) acc (scN x.2 m)
      have v : nv p q ps x.1.toNat = Lq p q pr.1 pr.2 := by unfold nv; rw [e2]
      refine ⟨n0, ?_, fun y hy => ?_⟩
      · rw [sumL, v]
        rw [show Lq p q (scN x.2 m).t (scN x.2 m).r = x.2 * Lq p q m.t m.r by unfold Lq scN; grind, show (scN x.2 m).b = m.b from rfl] at pl
        generalize Lq p q (plN acc (scN x.2 m)).t (plN acc (scN x.2 m)).r = P at *
        generalize (plN acc (scN x.2 m)).b = f at *
        generalize Lq p q n.t n.r = N at *
        generalize Lq p q acc.t acc.r = A at *
        generalize Lq p q m.t m.r = M at *
        generalize Lq p q pr.1 pr.2 = R at *
        generalize sumL l (nv p q ps) = S at *
        have fm : f * m.b ≠ 0 := Int.ne_of_gt (Int.mul_pos pb om.1)
        refine Int.eq_of_mul_eq_mul_right fm ?_
        rw [show N * B * acc.b * (f * m.b) = N * B * f * (acc.b * m.b) by grind, i1]
        rw [show (P * B + S * f) * n.b * (acc.b * m.b) = (P * (acc.b * m.b) * B + S * f * (acc.b * m.b)) * n.b by grind, pl]
        rw [show (A * B + (x.2 * R + S) * acc.b) * n.b * (f * m.b) = (A * B * m.b + x.2 * (R * m.b) * acc.b + S * acc.b * m.b) * f * n.b by grind, e3]
        grind
      · rcases List.mem_cons.mp hy with rfl | hy
        · rw [e2]; rfl
        · exact i2 y hy
omit F in
theorem tot_ex {ls : List (Option Nu)} : ∀ {l : List (Int × Int)} {acc : Nu}, (∀ x ∈ l, (ls.getD x.1.toNat none).isSome = true) → ∃ n, totN ls l acc = some n
  | [], acc, _ => ⟨acc, rfl⟩
  | x :: l, acc, h => by
    obtain ⟨m, e⟩ := Option.isSome_iff_exists.mp (h x (List.mem_cons_self ..))
    rw [totN, e]
    exact tot_ex fun y hy => h y (List.mem_cons_of_mem _ hy)
omit F in
theorem tot_ok {ls : List (Option Nu)} (okl : okLs ls) : ∀ {l : List (Int × Int)} {acc n : Nu} {a b : Nat}, (∀ x ∈ l, Bw 2 x.2) → b ≤ a + 97 → Nu.ok a b acc → totN ls l acc = some n → Nu.ok (a + 300 * l.length) (b + 90 * l.length) n
  | [], acc, n, a, b, _, _, o, e => by
    cases e
    exact o
  | x :: l, acc, n, a, b, hl, hab, o, e => by
    rw [totN] at e
    cases e1 : ls.getD x.1.toNat none with
    | none => rw [e1] at e; cases e
    | some m =>
      rw [e1] at e
      have om := okl.at e1
      have := tot_ok okl (l := l) (a := a + 300) (b := b + 90) (fun y hy => hl y (List.mem_cons_of_mem _ hy)) (by omega) ((plN_ok o (scN_okG om (hl x (List.mem_cons_self ..)))).mono (by omega) (by omega)) e
      rw [List.length_cons]
      exact this.mono (by omega) (by omega)
omit F in
theorem barC_pos' : ∀ l ∈ barC, ∀ y ∈ l, 0 ≤ y.1 ∧ y.1 ≤ 7 ∧ y.2.natAbs < 4 := by decide +kernel
theorem bar_iff {xs : List Bn} (hx : ∀ x ∈ xs, rw2 x) (bk : BsOk (xs.map lowN)) {l : List (Int × Int)} (hl : l ∈ barC) : barT ((leastN (xs.map lowN)).map (prO (comB (leastN (xs.map lowN)) 1))) l = true ↔ ∃ n, totN (lsF xs) l ⟨0, 0, 1⟩ = some n ∧ sg2 n.t n.r ≤ 0 := by
  have okl := lsF_ok hx
  have lk := fun d hd => ls_link F hx bk (d := d) hd
  have pk := bk.2.2
  obtain ⟨B1, -⟩ := comB_leastN bk
  generalize (leastN (xs.map lowN)).map (prO (comB (leastN (xs.map lowN)) 1)) = ps at *
  generalize comB (leastN (xs.map lowN)) 1 = B at *
  have bp := barC_pos' l hl
  have l3 : l.length ≤ 3 := (barC_ok l hl).1
  have val : ∀ n, totN (lsF xs) l ⟨0, 0, 1⟩ = some n → ∃ r, psum ps l (0, 0) = some r ∧ (sg2 n.t n.r ≤ 0 ↔ Lq p q r.1 r.2 ≤ 0) := fun n e => by
    obtain ⟨n0, v1, v2⟩ := tot_val F okl lk (fun x hx => ⟨(bp x hx).1, (bp x hx).2.1⟩) (by decide) e
    obtain ⟨r, er⟩ := psum_ex (acc := (0, 0)) v2
    have s := (psum_sum (p := p) (q := q) er).1
    have on := tot_ok okl (a := 1) (b := 1) (fun x hx => (bp x hx).2.2) (by omega) ⟨by decide, by unfold Bw; decide, by unfold Bw; decide, by unfold Bw; decide⟩ e
    refine ⟨r, er, ?_⟩
    rw [show sg2 n.t n.r ≤ 0 ↔ Lq p q n.t n.r ≤ 0 from F.le (on.2.2.1.mono (by omega))]
    rw [show Lq p q (0, 0).1 (0, 0).2 = 0 by simp [Lq], Int.zero_add] at s
    rw [← s] at v1
    replace v1 : Lq p q n.t n.r * B * 1 = (Lq p q 0 0 * B + Lq p q r.1 r.2 * 1) * n.b := v1
    rw [show Lq p q 0 0 = 0 by simp [Lq], Int.mul_one, Int.mul_one, Int.zero_mul, Int.zero_add] at v1
    rw [← le_mul (a := Lq p q n.t n.r) (b := 0) B1, v1, Int.zero_mul, ← le_mul (a := Lq p q r.1 r.2) (b := 0) n0, Int.zero_mul]
  have psb : ∀ r, psum ps l (0, 0) = some r → (barT ps l = true ↔ Lq p q r.1 r.2 ≤ 0) := fun r er => by
    unfold barT
    rw [er]
    show decide (sgn r.1 r.2 ≤ 0) = true ↔ _
    rw [decide_eq_true_iff, F.le ((psum_ok pk (barC_ok l hl) er).2.mono (by decide))]
  constructor
  · intro h
    have : ∃ r, psum ps l (0, 0) = some r := by
      unfold barT at h
      split at h
      · cases h
      · exact ⟨_, by assumption⟩
    obtain ⟨r, er⟩ := this
    have pres := (psum_sum (p := p) (q := q) er).2
    obtain ⟨n, en⟩ := tot_ex (ls := lsF xs) (l := l) (acc := ⟨0, 0, 1⟩) fun x hx => by
      rcases lk x.1.toNat (by have := bp x hx; omega) with ⟨-, e2⟩ | ⟨m, pr, e1, -, -⟩
      · have := pres x hx
        rw [e2] at this
        cases this
      · rw [e1]; rfl
    obtain ⟨r', er', hi⟩ := val n en
    rw [er] at er'
    cases er'
    exact ⟨n, en, hi.mpr ((psb r er).mp h)⟩
  · rintro ⟨n, en, hs⟩
    obtain ⟨r, er, hi⟩ := val n en
    exact (psb r er).mpr (hi.mp hs)
end
def pairC (i : Nat) : List (Int × Int) := [((i : Int), 1), (((i + 4 : Nat) : Int), 1)]
def tripC (i j k : Nat) : List (Int × Int) := [((i : Int), crs j k), ((j : Int), crs k i), ((k : Int), crs i j)]
theorem pair_bar : ∀ i, i < 4 → pairC i ∈ barC := by decide +kernel
def tripOk : Bool := (List.range 8).all fun i => (List.range 8).all fun j => (List.range 8).all fun k => !(decide (i < j) && decide (j < k) && decide (0 < crs j k) && decide (0 < crs k i) && decide (0 < crs i j)) || decide (tripC i j k ∈ barC)
theorem tripOk_t : tripOk = true := by decide +kernel
theorem trip_bar {i j k : Nat} (hi : i < 8) (hj : j < 8) (hk : k < 8) (h1 : i < j) (h2 : j < k) (h3 : 0 < crs j k) (h4 : 0 < crs k i) (h5 : 0 < crs i j) : tripC i j k ∈ barC := by
  have := List.all_eq_true.mp (List.all_eq_true.mp (List.all_eq_true.mp tripOk_t i (List.mem_range.mpr hi)) j (List.mem_range.mpr hj)) k (List.mem_range.mpr hk)
  simpa [h1, h2, h3, h4, h5] using this
def isPair (l : List (Int × Int)) : Bool := (List.range 4).any fun i => decide (l = pairC i)
def isTrip (l : List (Int × Int)) : Bool := (List.range 8).any fun i => (List.range 8).any fun j => (List.range 8).any fun k => decide (i < j) && decide (j < k) && decide (0 < crs j k) && decide (0 < crs k i) && decide (0 < crs i j) && decide (l = tripC i j k)
theorem bar_split : ∀ l ∈ barC, isPair l = true ∨ isTrip l = true := by decide +kernel
theorem trip_w : ∀ i, i < 8 → ∀ j, j < 8 → ∀ k, k < 8 → (crs j k).natAbs < 4 ∧ (crs k i).natAbs < 4 ∧ (crs i j).natAbs < 4 := by decide +kernel
/-- no bars among these -/
def NB (ls : List (Option Nu)) (l : List (Int × Int)) : Prop := ∀ n, totN ls l ⟨0, 0, 1⟩ = some n → ¬ (sg2 n.t n.r ≤ 0)
def NBij (ls : List (Option Nu)) (i j : Nat) : Prop := (j = i + 4 → NB ls (pairC i)) ∧ ∀ k, j < k → k < 8 → 0 < crs j k → 0 < crs k i → 0 < crs i j → NB ls (tripC i j k)
theorem bar_yes {xs : List Bn} (hx : ∀ x ∈ xs, rw2 x) (bk : BsOk (xs.map lowN)) {l : List (Int × Int)} (hl : l ∈ barC) {n : Nu} (e : totN (lsF xs) l ⟨0, 0, 1⟩ = some n) (hs : sg2 n.t n.r ≤ 0) : barP (xs.map lowN) = true := by
  obtain ⟨p, q, F⟩ := far_ex
  exact List.any_eq_true.mpr ⟨l, hl, (bar_iff F hx bk hl).mpr ⟨n, e, hs⟩⟩
theorem bar_no {xs : List Bn} (hx : ∀ x ∈ xs, rw2 x) (bk : BsOk (xs.map lowN)) (h : ∀ i j, i < j → j < 8 → NBij (lsF xs) i j) : barP (xs.map lowN) = false := by
  obtain ⟨p, q, F⟩ := far_ex
  cases e : barP (xs.map lowN) with
  | false => rfl
  | true =>
    exfalso
    obtain ⟨l, hl, hb⟩ := List.any_eq_true.mp e
    obtain ⟨n, en, hs⟩ := (bar_iff F hx bk hl).mp hb
    rcases bar_split l hl with hp | hp
    · obtain ⟨i, hi, he⟩ := List.any_eq_true.mp hp
      have hi := List.mem_range.mp hi
      have he := of_decide_eq_true he
      rw [he] at en
      exact (h i (i + 4) (by omega) (by omega)).1 rfl n en hs
    · obtain ⟨i, hi, hp⟩ := List.any_eq_true.mp hp
      obtain ⟨j, hj, hp⟩ := List.any_eq_true.mp hp
      obtain ⟨k, hk, hp⟩ := List.any_eq_true.mp hp
      simp only [Bool.and_eq_true, decide_eq_true_iff] at hp
      obtain ⟨⟨⟨⟨⟨h1, h2⟩, h3⟩, h4⟩, h5⟩, he⟩ := hp
      have hk := List.mem_range.mp hk
      rw [he] at en
      exact (h i j h1 (by omega)).2 k h2 hk h3 h4 h5 n en hs
abbrev s__law_is_integer : Stmt := top 31
theorem sc__law_is_integer : FnScope ["thing"] ["thing"] (defScope s__law_is_integer) := ⟨rfl, rfl, rfl, by decide +kernel, rfl, by decide +kernel, by decide +kernel⟩

def sp__law_is_integer (Z : Zs) : Sp := fun vs H Q E =>
  ∃ v, vs = [v] ∧ Th Z.c_Root H v ∧ Q (.bl (isI v)) H
theorem ok__law_is_integer (T : Txt Z mg)  (D : AtF Z.K mg "_law_is_integer" "_law_is_integer" s__law_is_integer ["thing"]) : Has P w Z.K mg base "_law_is_integer" 1 ["thing"] (sp__law_is_integer Z) := by
  refine D.ok sc__law_is_integer (fun vs H Q E h => ?_) (fun cdv A outer s H vs Q E hr h => ?_)
  · obtain ⟨v, rfl, _⟩ := h
    rfl
  · refine ⟨_, (pss_one (ps_ret (pe_and (pe_callB call_isi rfl T.n_isinstance (by decide +kernel) (pa_cons (pv 0) (pa_cons (pe_bltn (v := .ty "int") rfl T.n_int (by decide +kernel) rfl) pa_nil))) (pe_one (pe_not (pe_callB call_isi rfl T.n_isinstance (by decide +kernel) (pa_cons (pv 0) (pa_cons (pe_bltn (v := .ty "bool") rfl T.n_bool (by decide +kernel) rfl) pa_nil)))))))), ?_⟩
    try simp only [cxOf]
    obtain ⟨v, rfl, hv, q⟩ := h
    obtain ⟨t, ty, k1, k2, _⟩ := hv.ty T.ki
    walk_at "W"
    refine w_isi ty k1 ?_
    walk_at "W"
    cases e : isI v || isB v
    · walk_at "W"
      have : isI v = false := by cases v <;> simp_all [isI, isB]
      rw [this] at q; exact q
    · walk_at "W"
      refine w_isi ty k2 ?_
      walk_at "W"
      have : (!isB v) = isI v := by cases v <;> simp_all [isI, isB]
      rw [this]; exact q
/-! the least number that two bounds imply, as the law finds it -/
def ovN (n : Nu) (k : Int) : Nu := if k < 0 then ⟨-n.t, -n.r, -k * n.b⟩ else ⟨n.t, n.r, k * n.b⟩
def cdN (d i j : Nat) (m n : Nu) : Nu := ovN (plN (scN (crs d j) m) (scN (crs i d) n)) (crs i j)
noncomputable def pF : Int := Classical.choose far_ex
noncomputable def qF : Int := Classical.choose (Classical.choose_spec far_ex)
theorem FF : Far pF qF := Classical.choose_spec (Classical.choose_spec far_ex)
noncomputable def Lv (n : Nu) : Int := Lq pF qF n.t n.r
structure Vld (d i j : Nat) : Prop where
  ij : i < j
  j8 : j < 8
  turn : crs i j ≠ 0
  first : 0 ≤ crs d j * crs i j
  last : 0 ≤ crs i d * crs i j
def Cnd (ls : List (Option Nu)) (d : Nat) (S : Nat → Nat → Prop) (c : Nu) : Prop := ls.getD d none = some c ∨ ∃ i j m n, S i j ∧ Vld d i j ∧ ls.getD i none = some m ∧ ls.getD j none = some n ∧ c = cdN d i j m n
def BestS (ls : List (Option Nu)) (d : Nat) (S : Nat → Nat → Prop) : Option Nu → Prop
  | none => ∀ c, ¬ Cnd ls d S c
  | some b => Cnd ls d S b ∧ ∀ c, Cnd ls d S c → Lv b * c.b ≤ Lv c * b.b
theorem ovN_ok {m k : Nat} {n : Nu} {c : Int} (h : Nu.ok m k n) (hc : c ≠ 0) (w : Bw 2 c) : Nu.ok m (k + 2) (ovN n c) := by
  unfold ovN
  split
  · exact ⟨Int.mul_pos (by omega) h.1, h.2.1.neg, h.2.2.1.neg, (w.neg.mul h.2.2.2).mono (by omega)⟩
  · exact ⟨Int.mul_pos (by omega) h.1, h.2.1, h.2.2.1, (w.mul h.2.2.2).mono (by omega)⟩
theorem sum_ok {d i j : Nat} (hd : d < 8) (hi : i < 8) (hj : j < 8) {m n : Nu} (om : Nu.ok 200 90 m) (on : Nu.ok 200 90 n) : Nu.ok 293 180 (plN (scN (crs d j) m) (scN (crs i d) n)) :=
  (plN_ok (scN_okG om (crs_bw hd hj)) (scN_okG on (crs_bw hi hd))).mono (by decide) (by decide)
theorem cdN_ok {d i j : Nat} (hd : d < 8) (hi : i < 8) (hj : j < 8) (ht : crs i j ≠ 0) {m n : Nu} (om : Nu.ok 200 90 m) (on : Nu.ok 200 90 n) : Nu.ok 293 182 (cdN d i j m n) := ovN_ok (sum_ok hd hi hj om on) ht (crs_bw hi hj)
theorem Cnd.ok {ls : List (Option Nu)} (okl : okLs ls) {d : Nat} (hd : d < 8) {S : Nat → Nat → Prop} {c : Nu} (h : Cnd ls d S c) : Nu.ok 293 182 c := by
  rcases h with e | ⟨i, j, m, n, -, v, e1, e2, rfl⟩
  · exact (okl.at e).mono (by decide) (by decide)
  · exact cdN_ok hd (Nat.lt_trans v.ij v.j8) v.j8 v.turn (okl.at e1) (okl.at e2)
theorem BestS.ok {ls : List (Option Nu)} (okl : okLs ls) {d : Nat} (hd : d < 8) {S : Nat → Nat → Prop} {c : Nu} (h : BestS ls d S (some c)) : Nu.ok 293 182 c := h.1.ok okl hd
theorem BestS.congr {ls : List (Option Nu)} {d : Nat} {S S' : Nat → Nat → Prop} {o : Option Nu} (h : BestS ls d S o) (hS : ∀ i j, i < j → j < 8 → (S i j ↔ S' i j)) : BestS ls d S' o := by
  have : ∀ c, Cnd ls d S c ↔ Cnd ls d S' c := fun c => by
    constructor
    · rintro (e | ⟨i, j, m, n, s, v, e⟩)
      · exact .inl e
      · exact .inr ⟨i, j, m, n, (hS i j v.ij v.j8).mp s, v, e⟩
    · rintro (e | ⟨i, j, m, n, s, v, e⟩)
      · exact .inl e
      · exact .inr ⟨i, j, m, n, (hS i j v.ij v.j8).mpr s, v, e⟩
  cases o with
  | none => exact fun c hc => h c ((this c).mpr hc)
  | some b => exact ⟨(this b).mp h.1, fun c hc => h.2 c ((this c).mpr hc)⟩
theorem BestS.skip {ls : List (Option Nu)} {d i j : Nat} {S S' : Nat → Nat → Prop} {o : Option Nu} (h : BestS ls d S o) (hS : ∀ i' j', S' i' j' ↔ S i' j' ∨ i' = i ∧ j' = j) (bad : ∀ m n, Vld d i j → ls.getD i none = some m → ls.getD j none = some n → False) : BestS ls d S' o := by
  have : ∀ c, Cnd ls d S c ↔ Cnd ls d S' c := fun c => by
    constructor
    · rintro (e | ⟨i', j', m, n, s, v, e⟩)
      · exact .inl e
      · exact .inr ⟨i', j', m, n, (hS i' j').mpr (.inl s), v, e⟩
    · rintro (e | ⟨i', j', m, n, s, v, e1, e2, e3⟩)
      · exact .inl e
      · rcases (hS i' j').mp s with s | ⟨rfl, rfl⟩
        · exact .inr ⟨i', j', m, n, s, v, e1, e2, e3⟩
        · exact (bad m n v e1 e2).elim
  cases o with
  | none => exact fun c hc => h c ((this c).mpr hc)
  | some b => exact ⟨(this b).mp h.1, fun c hc => h.2 c ((this c).mpr hc)⟩
theorem BestS.take {ls : List (Option Nu)} (okl : okLs ls) {d i j : Nat} (hd : d < 8) {S S' : Nat → Nat → Prop} {o : Option Nu} (h : BestS ls d S o) (hS : ∀ i' j', S' i' j' ↔ S i' j' ∨ i' = i ∧ j' = j) {m n : Nu} (v : Vld d i j) (e1 : ls.getD i none = some m) (e2 : ls.getD j none = some n) :
    (o = none → BestS ls d S' (some (cdN d i j m n))) ∧ ∀ b, o = some b → (cmN (cdN d i j m n) b < 0 → BestS ls d S' (some (cdN d i j m n))) ∧ (¬ cmN (cdN d i j m n) b < 0 → BestS ls d S' o) := by
  have up : ∀ c, Cnd ls d S' c ↔ Cnd ls d S c ∨ c = cdN d i j m n := fun c => by
    constructor
    · rintro (e | ⟨i', j', m', n', s, v', f1, f2, f3⟩)
      · exact .inl (.inl e)
      · rcases (hS i' j').mp s with s | ⟨rfl, rfl⟩
        · exact .inl (.inr ⟨i', j', m', n', s, v', f1, f2, f3⟩)
        · rw [e1] at f1
          rw [e2] at f2
          cases f1
          cases f2
          exact .inr f3
    · rintro ((e | ⟨i', j', m', n', s, v', e⟩) | rfl)
      · exact .inl e
      · exact .inr ⟨i', j', m', n', (hS i' j').mpr (.inl s), v', e⟩
      · exact .inr ⟨i, j, m, n, (hS i j).mpr (.inr ⟨rfl, rfl⟩), v, e1, e2, rfl⟩
  have oc := cdN_ok hd (Nat.lt_trans v.ij v.j8) v.j8 v.turn (okl.at e1) (okl.at e2)
  refine ⟨fun hn => ?_, fun b hb => ?_⟩
  · rw [hn] at h
    refine ⟨(up _).mpr (.inr rfl), fun c hc => ?_⟩
    rcases (up c).mp hc with hc | rfl
    · exact absurd hc (h c)
    · exact Int.le_refl _
  · rw [hb] at h
    have ob := BestS.ok okl hd h
    have cl : cmN (cdN d i j m n) b < 0 ↔ Lv (cdN d i j m n) * b.b < Lv b * (cdN d i j m n).b := cm_L FF (oc.mono (by decide) (by decide)) (ob.mono (by decide) (by decide))
    refine ⟨fun hc => ⟨(up _).mpr (.inr rfl), fun c hcc => ?_⟩, fun hc => ?_⟩
    · rcases (up c).mp hcc with hcc | rfl
      · have l1 := cl.mp hc
        have l2 := h.2 c hcc
        have oc' := hcc.ok okl hd
        have h2 := (lt_mul oc'.1).mpr l1
        have h3 := (le_mul oc.1).mpr l2
        refine (le_mul ob.1).mp ?_
        rw [show Lv (cdN d i j m n) * c.b * b.b = Lv (cdN d i j m n) * b.b * c.b by grind, show Lv c * (cdN d i j m n).b * b.b = Lv c * b.b * (cdN d i j m n).b by grind]
        have e3 : Lv b * (cdN d i j m n).b * c.b = Lv b * c.b * (cdN d i j m n).b := by grind
        omega
      · exact Int.le_refl _
    · rw [hb]
      refine ⟨(up _).mpr (.inl h.1), fun c hcc => ?_⟩
      rcases (up c).mp hcc with hcc | rfl
      · exact h.2 c hcc
      · exact Int.not_lt.mp fun z => hc (cl.mpr z)
/-! the same as the tightened number -/
def okA (d i j : Nat) : Bool := (pressD d).any fun y => match y.2 with
  | [x] => (decide (x = ((d : Int), 1)) && decide (y.1 = 1)) && ((decide (i = d) && decide (crs d j = crs i j) && decide (crs i d = 0)) || (decide (j = d) && decide (crs i d = crs i j) && decide (crs d j = 0)))
  | [x, z] => (decide (x.1 = (i : Int)) && decide (z.1 = (j : Int)) && decide (x.2 * crs i j = y.1 * crs d j) && decide (z.2 * crs i j = y.1 * crs i d)) || (decide (x.1 = (j : Int)) && decide (z.1 = (i : Int)) && decide (z.2 * crs i j = y.1 * crs d j) && decide (x.2 * crs i j = y.1 * crs i d))
  | _ => false
def vldB (d i j : Nat) : Bool := decide (i < j) && decide (j < 8) && decide (crs i j ≠ 0) && decide (0 ≤ crs d j * crs i j) && decide (0 ≤ crs i d * crs i j)
def allA : Bool := (List.range 8).all fun d => (List.range 8).all fun i => (List.range 8).all fun j => !vldB d i j || okA d i j
theorem allA_t : allA = true := by decide +kernel
def okB (d : Nat) (y : Int × List (Int × Int)) : Bool := match y.2 with
  | [x] => decide (x = ((d : Int), 1)) && decide (y.1 = 1)
  | [x, z] => (List.range 8).any fun i => (List.range 8).any fun j => vldB d i j && ((decide (x.1 = (i : Int)) && decide (z.1 = (j : Int)) && decide (x.2 * crs i j = y.1 * crs d j) && decide (z.2 * crs i j = y.1 * crs i d)) || (decide (x.1 = (j : Int)) && decide (z.1 = (i : Int)) && decide (z.2 * crs i j = y.1 * crs d j) && decide (x.2 * crs i j = y.1 * crs i d)))
  | _ => false
def allB : Bool := (List.range 8).all fun d => (pressD d).all (okB d)
theorem allB_t : allB = true := by decide +kernel
theorem vldB_ok {d i j : Nat} : vldB d i j = true ↔ Vld d i j := by
  unfold vldB
  simp only [Bool.and_eq_true, decide_eq_true_iff]
  exact ⟨fun ⟨⟨⟨⟨a, b⟩, c⟩, e⟩, f⟩ => ⟨a, b, c, e, f⟩, fun h => ⟨⟨⟨⟨h.ij, h.j8⟩, h.turn⟩, h.first⟩, h.last⟩⟩
/-- a candidate's value -/
theorem cd_val {B Pi Pj : Int} {d i j : Nat} {m n : Nu} (om : 0 < m.b) (on : 0 < n.b) (ht : crs i j ≠ 0) (h1 : Pi * m.b = Lv m * B) (h2 : Pj * n.b = Lv n * B) : Lv (cdN d i j m n) * B * crs i j = (crs d j * Pi + crs i d * Pj) * (cdN d i j m n).b := by
  have pb : 0 < (plN (scN (crs d j) m) (scN (crs i d) n)).b := by
    unfold plN
    split
    · exact om
    · exact Int.mul_pos om on
  have pl := pl_L (p := pF) (q := qF) (scN (crs d j) m) (scN (crs i d) n)
  unfold cdN
  generalize hX : plN (scN (crs d j) m) (scN (crs i d) n) = X at *
  have ov : Lv (ovN X (crs i j)) * (crs i j * X.b) = Lv X * (ovN X (crs i j)).b := by
    unfold ovN Lv Lq
    split <;> (dsimp only <;> grind)
  rw [show Lq pF qF (scN (crs d j) m).t (scN (crs d j) m).r = crs d j * Lv m by unfold Lv Lq scN; grind, show Lq pF qF (scN (crs i d) n).t (scN (crs i d) n).r = crs i d * Lv n by unfold Lv Lq scN; grind, show (scN (crs d j) m).b = m.b from rfl, show (scN (crs i d) n).b = n.b from rfl, show Lq pF qF X.t X.r = Lv X from rfl] at pl
  generalize ovN X (crs i j) = C at *
  generalize crs i j = k at *
  generalize crs d j = f at *
  generalize crs i d = l at *
  generalize Lv C = c at *
  generalize Lv X = x at *
  generalize Lv m = a at *
  generalize Lv n = b at *
  have e1 : x * B = (f * Pi + l * Pj) * X.b := by
    refine Int.eq_of_mul_eq_mul_right (Int.ne_of_gt (Int.mul_pos om on)) ?_
    rw [show x * B * (m.b * n.b) = x * (m.b * n.b) * B by grind, pl, show (f * a * n.b + l * b * m.b) * X.b * B = (f * (a * B) * n.b + l * (b * B) * m.b) * X.b by grind, ← h1, ← h2]
    grind
  refine Int.eq_of_mul_eq_mul_right (Int.ne_of_gt pb) ?_
  rw [show c * B * k * X.b = c * (k * X.b) * B by grind, ov, show x * C.b * B = x * B * C.b by grind, e1]
  grind
theorem vld_of {d i j : Nat} (hd : d < 8) (v : Vld d i j) : okA d i j = true := by
  have i8 := Nat.lt_trans v.ij v.j8
  have := List.all_eq_true.mp (List.all_eq_true.mp (List.all_eq_true.mp allA_t d (List.mem_range.mpr hd)) i (List.mem_range.mpr i8)) j (List.mem_range.mpr v.j8)
  rw [vldB_ok.mpr v] at this
  simpa using this
theorem best_tight {xs : List Bn} (hx : ∀ x ∈ xs, rw2 x) (bk : BsOk (xs.map lowN)) {d : Nat} (hd : d < 8) {o : Option Nu} (h : BestS (lsF xs) d (fun _ _ => True) o) :
    (o = none → lprO ((leastN (xs.map lowN)).map (prO (comB (leastN (xs.map lowN)) 1))) d = none) ∧ ∀ b, o = some b → ∃ c, lprO ((leastN (xs.map lowN)).map (prO (comB (leastN (xs.map lowN)) 1))) d = some c ∧ Lv b * (2 * comB (leastN (xs.map lowN)) 1) = Lq pF qF c.1 c.2 * b.b := by
  have okl := lsF_ok hx
  have lk := fun d hd => ls_link FF hx bk (d := d) hd
  have pk := bk.2.2
  obtain ⟨B1, -⟩ := comB_leastN bk
  generalize (leastN (xs.map lowN)).map (prO (comB (leastN (xs.map lowN)) 1)) = ps at *
  generalize comB (leastN (xs.map lowN)) 1 = B at *
  generalize lsF xs = ls at *
  have lf := lfold_spec FF pk (l := pressD d) (acc := none) (pressD_ok hd).2 (fun r e => by cases e)
  have pw := (pressD_ok hd).2
  have num : ∀ {k : Nat} {m : Nu}, k < 8 → ls.getD k none = some m → ∃ pr, ps.getD k none = some pr ∧ Lq pF qF pr.1 pr.2 * m.b = Lv m * B := fun {k m} hk e => by
    rcases lk k hk with ⟨e1, -⟩ | ⟨m', pr, e1, e2, e3⟩
    · rw [e] at e1; cases e1
    · rw [e] at e1
      cases e1
      exact ⟨pr, e2, e3⟩
  have num' : ∀ {k : Nat}, k < 8 → (ps.getD k none).isSome = true → ∃ m pr, ls.getD k none = some m ∧ ps.getD k none = some pr ∧ Lq pF qF pr.1 pr.2 * m.b = Lv m * B := fun {k} hk e => by
    rcases lk k hk with ⟨-, e1⟩ | ⟨m', pr, e1, e2, e3⟩
    · rw [e1] at e; cases e
    · exact ⟨m', pr, e1, e2, e3⟩
  have two : ∀ {w : Int}, w = 1 ∨ w = 2 → (2 / w) * w = 2 := fun h => by rcases h with rfl | rfl <;> rfl
  -- a press that is one candidate
  have link : ∀ (y : Int × List (Int × Int)) (C : Nu), y ∈ pressD d → 0 < C.b → ∀ r, psum ps y.2 (0, 0) = some r → y.1 * Lv C * B = Lq pF qF r.1 r.2 * C.b → Lq pF qF (r.1 * (2 / y.1)) (r.2 * (2 / y.1)) * C.b = 2 * B * Lv C := fun y C hy hC r er e => by
    have t2 := two (pw y hy).1
    rw [show Lq pF qF (r.1 * (2 / y.1)) (r.2 * (2 / y.1)) * C.b = (2 / y.1) * (Lq pF qF r.1 r.2 * C.b) by unfold Lq; grind, ← e, show 2 / y.1 * (y.1 * Lv C * B) = (2 / y.1 * y.1) * Lv C * B by grind, t2]
    grind
  have one1 : ∀ {y : Int × List (Int × Int)} {x : Int × Int} {m : Nu}, y.2 = [x] → x = ((d : Int), 1) → y.1 = 1 → ls.getD d none = some m → ∃ r, psum ps y.2 (0, 0) = some r ∧ y.1 * Lv m * B = Lq pF qF r.1 r.2 * m.b := fun {y x m} h1 h2 h3 e => by
    obtain ⟨pr, e2, e3⟩ := num hd e
    refine ⟨_, by rw [h1, h2]; exact psum_some e2, ?_⟩
    rw [h3, Int.one_mul, ← e3]
    unfold Lq
    grind
  have two2 : ∀ {y : Int × List (Int × Int)} {x z : Int × Int} {i j : Nat} {m n : Nu}, y.2 = [x, z] → Vld d i j → ls.getD i none = some m → ls.getD j none = some n →
      ((x.1 = (i : Int) ∧ z.1 = (j : Int) ∧ x.2 * crs i j = y.1 * crs d j ∧ z.2 * crs i j = y.1 * crs i d) ∨ (x.1 = (j : Int) ∧ z.1 = (i : Int) ∧ z.2 * crs i j = y.1 * crs d j ∧ x.2 * crs i j = y.1 * crs i d)) →
      ∃ r, psum ps y.2 (0, 0) = some r ∧ y.1 * Lv (cdN d i j m n) * B = Lq pF qF r.1 r.2 * (cdN d i j m n).b := fun {y x z i j m n} hy v e1 e2 hw => by
    obtain ⟨pi, f1, g1⟩ := num (Nat.lt_trans v.ij v.j8) e1
    obtain ⟨pj, f2, g2⟩ := num v.j8 e2
    have val := cd_val (d := d) (okl.at e1).1 (okl.at e2).1 v.turn g1 g2
    have fin : ∀ {V a b : Int}, V = a * Lq pF qF pi.1 pi.2 + b * Lq pF qF pj.1 pj.2 → a * crs i j = y.1 * crs d j → b * crs i j = y.1 * crs i d → y.1 * Lv (cdN d i j m n) * B = V * (cdN d i j m n).b := fun {V a b} hV ha hb => by
      refine Int.eq_of_mul_eq_mul_right v.turn ?_
      rw [show y.1 * Lv (cdN d i j m n) * B * crs i j = y.1 * (Lv (cdN d i j m n) * B * crs i j) by grind, val, hV]
      rw [show (a * Lq pF qF pi.1 pi.2 + b * Lq pF qF pj.1 pj.2) * (cdN d i j m n).b * crs i j = (a * crs i j * Lq pF qF pi.1 pi.2 + b * crs i j * Lq pF qF pj.1 pj.2) * (cdN d i j m n).b by grind, ha, hb]
      grind
    rcases hw with ⟨h1, h2, h3, h4⟩ | ⟨h1, h2, h3, h4⟩
    · refine ⟨_, by rw [hy, psum, h1, Int.toNat_natCast, f1]; dsimp only; rw [psum, h2, Int.toNat_natCast, f2]; rfl, fin (a := x.2) (b := z.2) ?_ h3 h4⟩
      unfold Lq
      grind
    · refine ⟨_, by rw [hy, psum, h1, Int.toNat_natCast, f2]; dsimp only; rw [psum, h2, Int.toNat_natCast, f1]; rfl, fin (a := z.2) (b := x.2) ?_ h3 h4⟩
      unfold Lq
      grind
  -- each candidate is a press
  have toP : ∀ C, Cnd ls d (fun _ _ => True) C → ∃ y ∈ pressD d, ∃ r, psum ps y.2 (0, 0) = some r ∧ y.1 * Lv C * B = Lq pF qF r.1 r.2 * C.b := fun C hC => by
    have self : ∀ {m : Nu}, ls.getD d none = some m → ∃ y ∈ pressD d, ∃ r, psum ps y.2 (0, 0) = some r ∧ y.1 * Lv m * B = Lq pF qF r.1 r.2 * m.b := fun {m} e => by
      obtain ⟨r, er, hr⟩ := one1 (y := (1, [((d : Int), 1)])) rfl rfl rfl e
      exact ⟨_, (press_w hd).1, r, er, hr⟩
    rcases hC with e | ⟨i, j, m, n, -, v, e1, e2, rfl⟩
    · exact self e
    · obtain ⟨y, hy, hok⟩ := List.any_eq_true.mp (vld_of hd v)
      have i8 := Nat.lt_trans v.ij v.j8
      split at hok
      · rename_i x hx
        simp only [Bool.and_eq_true, Bool.or_eq_true, decide_eq_true_iff] at hok
        obtain ⟨⟨hx1, hy1⟩, hw⟩ := hok
        obtain ⟨pi, f1, g1⟩ := num i8 e1
        obtain ⟨pj, f2, g2⟩ := num v.j8 e2
        have val := cd_val (d := d) (okl.at e1).1 (okl.at e2).1 v.turn g1 g2
        have om := okl.at e1
        have on := okl.at e2
        have oC := cdN_ok hd i8 v.j8 v.turn om on
        have go : ∀ {m' : Nu} {pr : Int × Int}, 0 < m'.b → ls.getD d none = some m' → Lq pF qF pr.1 pr.2 * m'.b = Lv m' * B → Lv (cdN d i j m n) * B * crs i j = crs i j * Lq pF qF pr.1 pr.2 * (cdN d i j m n).b → ∃ y ∈ pressD d, ∃ r, psum ps y.2 (0, 0) = some r ∧ y.1 * Lv (cdN d i j m n) * B = Lq pF qF r.1 r.2 * (cdN d i j m n).b := fun {m' pr} mb em g hv => by
          obtain ⟨r, er, hr⟩ := one1 hx hx1 hy1 em
          refine ⟨y, hy, r, er, ?_⟩
          have k1 : Lv (cdN d i j m n) * B = Lq pF qF pr.1 pr.2 * (cdN d i j m n).b := Int.eq_of_mul_eq_mul_right v.turn (by rw [hv]; grind)
          have k2 : Lq pF qF r.1 r.2 = Lq pF qF pr.1 pr.2 := Int.eq_of_mul_eq_mul_right (Int.ne_of_gt mb) (by rw [← hr, g, hy1, Int.one_mul])
          rw [hy1, Int.one_mul, k1, k2]
        rcases hw with ⟨⟨rfl, c1⟩, c2⟩ | ⟨⟨rfl, c1⟩, c2⟩
        · rw [c1, c2] at val
          exact go om.1 e1 g1 (by rw [val]; grind)
        · rw [c1, c2] at val
          exact go on.1 e2 g2 (by rw [val]; grind)
      · rename_i x z hx
        simp only [Bool.and_eq_true, Bool.or_eq_true, decide_eq_true_iff] at hok
        obtain ⟨r, er, hr⟩ := two2 hx v e1 e2 (by
          rcases hok with ⟨⟨⟨a, b⟩, c⟩, e⟩ | ⟨⟨⟨a, b⟩, c⟩, e⟩
          · exact .inl ⟨a, b, c, e⟩
          · exact .inr ⟨a, b, c, e⟩)
        exact ⟨y, hy, r, er, hr⟩
      · cases hok
  -- each press is a candidate
  have toC : ∀ y ∈ pressD d, ∀ r, psum ps y.2 (0, 0) = some r → ∃ C, Cnd ls d (fun _ _ => True) C ∧ y.1 * Lv C * B = Lq pF qF r.1 r.2 * C.b := fun y hy r er => by
    have pres := (psum_sum (p := pF) (q := qF) er).2
    have hok := List.all_eq_true.mp (List.all_eq_true.mp allB_t d (List.mem_range.mpr hd)) y hy
    unfold okB at hok
    split at hok
    · rename_i x hx
      simp only [Bool.and_eq_true, decide_eq_true_iff] at hok
      have := pres x (by rw [hx]; exact List.mem_singleton.mpr rfl)
      rw [hok.1, Int.toNat_natCast] at this
      obtain ⟨m, pr, e1, -, -⟩ := num' hd this
      obtain ⟨r', er', hr⟩ := one1 hx hok.1 hok.2 e1
      rw [er] at er'
      cases er'
      exact ⟨m, .inl e1, hr⟩
    · rename_i x z hx
      obtain ⟨i, hi, hok⟩ := List.any_eq_true.mp hok
      obtain ⟨j, hj, hok⟩ := List.any_eq_true.mp hok
      rw [Bool.and_eq_true] at hok
      have v := vldB_ok.mp hok.1
      have hw := hok.2
      simp only [Bool.and_eq_true, Bool.or_eq_true, decide_eq_true_iff] at hw
      have px := pres x (by rw [hx]; simp)
      have pz := pres z (by rw [hx]; simp)
      have both : (ps.getD i none).isSome = true ∧ (ps.getD j none).isSome = true := by
        rcases hw with ⟨⟨⟨a, b⟩, c⟩, e⟩ | ⟨⟨⟨a, b⟩, c⟩, e⟩
        · rw [a, Int.toNat_natCast] at px
          rw [b, Int.toNat_natCast] at pz
          exact ⟨px, pz⟩
        · rw [a, Int.toNat_natCast] at px
          rw [b, Int.toNat_natCast] at pz
          exact ⟨pz, px⟩
      obtain ⟨m, -, e1, -, -⟩ := num' (Nat.lt_trans v.ij v.j8) both.1
      obtain ⟨n, -, e2, -, -⟩ := num' v.j8 both.2
      obtain ⟨r', er', hr⟩ := two2 hx v e1 e2 (by
        rcases hw with ⟨⟨⟨a, b⟩, c⟩, e⟩ | ⟨⟨⟨a, b⟩, c⟩, e⟩
        · exact .inl ⟨a, b, c, e⟩
        · exact .inr ⟨a, b, c, e⟩)
      rw [er] at er'
      cases er'
      exact ⟨_, .inr ⟨i, j, m, n, trivial, v, e1, e2, rfl⟩, hr⟩
    · cases hok
  constructor
  · rintro rfl
    cases ec : lprO ps d with
    | none => rfl
    | some c =>
      exfalso
      rcases lf.1 c ec with h' | ⟨y, hy, r, er, -⟩
      · cases h'
      · obtain ⟨C, hC, -⟩ := toC y hy r er
        exact h C hC
  · rintro b rfl
    obtain ⟨y, hy, r, er, hr⟩ := toP b h.1
    have ob := BestS.ok okl hd h
    obtain ⟨c, ec, hle⟩ := lf.2.2 y hy r er
    refine ⟨c, ec, ?_⟩
    have l1 := (le_mul ob.1).mpr hle
    rw [link y b hy ob.1 r er hr] at l1
    rcases lf.1 c ec with h' | ⟨y', hy', r', er', hc⟩
    · cases h'
    · obtain ⟨C, hC, hCr⟩ := toC y' hy' r' er'
      have oC := hC.ok okl hd
      have l2 := link y' C hy' oC.1 r' er' hCr
      rw [hc] at l1
      rw [hc]
      dsimp only at l1 ⊢
      have l3 := h.2 C hC
      generalize Lq pF qF (r'.1 * (2 / y'.1)) (r'.2 * (2 / y'.1)) = V at *
      have B2 : 0 < 2 * B := by omega
      have l4 := (le_mul B2).mpr l3
      have e1 : Lv C * b.b * (2 * B) = V * b.b * C.b := by rw [show V * b.b * C.b = V * C.b * b.b by grind, l2]; grind
      rw [e1, show Lv b * C.b * (2 * B) = Lv b * (2 * B) * C.b by grind, le_mul oC.1] at l4
      have e2 : 2 * B * Lv b = Lv b * (2 * B) := by grind
      omega
/-! things that may tell weights of bounds -/
theorem k_tup3w {K : PySem.W.Frag} {T : Addr} {x y z : V} {σ σ' : L2.St} {H : Hp} {i j k : Nat} {N : L2.St → Hp → Prop} {n : Nat} (hT : H T = some (.tup [x, y, z])) (hn : n = 3) (hσ : ((σ.set i (some x)).set j (some y)).set k (some z) = σ') (q : N σ' H) :
    gTup K n (gCons (gName i) (gCons (gName j) (gCons (gName k) gNil))) (.ref T) σ H N := by
  subst hσ
  exact ⟨T, [x, y, z], rfl, SqT.of hT, by rw [hn]; rfl, x, _, rfl, y, _, rfl, z, [], rfl, rfl, q⟩
/-- all but lists is kept, a list stays one -/
structure KL (H H' : Hp) : Prop where
  k : Kps H H'
  l : ∀ b xs, H b = some (.lst xs) → ∃ ys, H' b = some (.lst ys)
theorem KL.refl (H : Hp) : KL H H := ⟨Kps.refl H, fun b xs e => ⟨xs, e⟩⟩
theorem KL.trans {A B C : Hp} (h : KL A B) (k : KL B C) : KL A C := ⟨h.k.trans k.k, fun b xs e => by
  obtain ⟨ys, e'⟩ := h.l b xs e
  exact k.l b ys e'⟩
theorem KL.same {A B : Hp} (h : Same A B) : KL A B := ⟨Kps.same h, fun b xs e => ⟨xs, h _ _ e⟩⟩
theorem KL.sx {A B : Hp} {l : Addr} {ys zs : List V} (hl : A l = some (.lst ys)) (h : SameX l A B) (hl' : B l = some (.lst zs)) : KL A B := ⟨Kps.sx hl h, fun b xs e => by
  by_cases n : b = l
  · rw [n]; exact ⟨zs, hl'⟩
  · exact ⟨xs, h _ _ n e⟩⟩
theorem St4.kl {A B : Hp} {p c : Addr} (h : St4 A p c) (x : SameX p A B) (h' : St4 B p c) : KL A B := by
  obtain ⟨ns, a1, a2, a3, h1, -⟩ := h
  obtain ⟨ns', b1, b2, b3, h2, -⟩ := h'
  exact KL.sx h1 x h2
def NT (H : Hp) (v : V) : Prop := v = .non ∨ (∃ b, v = .bl b) ∨ (∃ i, v = .int i) ∨ (∃ s, v = .str s) ∨ (∃ a xs, v = .ref a ∧ H a = some (.lst xs)) ∨ ∃ a kvs, v = .ref a ∧ H a = some (.dK kvs)
theorem NT.kl {H H' : Hp} {v : V} (h : NT H v) (k : KL H H') : NT H' v := by
  rcases h with h | h | h | h | ⟨a, xs, e, h⟩ | ⟨a, kvs, e, h⟩
  · exact .inl h
  · exact .inr (.inl h)
  · exact .inr (.inr (.inl h))
  · exact .inr (.inr (.inr (.inl h)))
  · obtain ⟨ys, h'⟩ := k.l a xs h
    exact .inr (.inr (.inr (.inr (.inl ⟨a, ys, e, h'⟩))))
  · exact .inr (.inr (.inr (.inr (.inr ⟨a, kvs, e, k.k _ _ (by intro xs z; cases z) h⟩))))
theorem NT.plain {H : Hp} {v : V} (h : NT H v) : Plain H v ∧ isTu H v = false := by
  rcases h with rfl | ⟨b, rfl⟩ | ⟨i, rfl⟩ | ⟨s, rfl⟩ | ⟨a, xs, rfl, h⟩ | ⟨a, kvs, rfl, h⟩
  · exact ⟨.non, rfl⟩
  · exact ⟨.bl b, rfl⟩
  · exact ⟨.int i, rfl⟩
  · exact ⟨.str s, rfl⟩
  · exact ⟨.lst a xs h, isTu_lst h⟩
  · exact ⟨.dK a kvs h, isTu_dK h⟩
theorem Th.kl {c : Addr} {H H' : Hp} {v : V} (h : Th c H v) (k : KL H H') : Th c H' v := by
  cases h with
  | non => exact .non
  | bl b => exact .bl b
  | int i => exact .int i
  | str s => exact .str s
  | lst a xs e =>
    obtain ⟨ys, e'⟩ := k.l a xs e
    exact .lst a ys e'
  | tup a xs e => exact .tup a xs (k.k.tup e)
  | dK a xs e => exact .dK a xs (k.k _ _ (by intro xs z; cases z) e)
  | root a dx t r b e => exact .root a dx t r b (k.k _ _ (by intro xs z; cases z) e)
/-- an item: a pair of integers, or none -/
def ItAt (Z : Zs) (H : Hp) (v : V) : Option (Int × Int) → Prop
  | some x => PrI H v x
  | none => NT H v ∨ (∃ p xs, v = .ref p ∧ H p = some (.tup xs) ∧ xs.length ≠ 2) ∨ ∃ p x y, v = .ref p ∧ H p = some (.tup [x, y]) ∧ Th Z.c_Root H x ∧ Th Z.c_Root H y ∧ (isI x && isI y) = false
theorem ItAt.kl {Z : Zs} {H H' : Hp} {v : V} {o : Option (Int × Int)} (h : ItAt Z H v o) (k : KL H H') : ItAt Z H' v o := by
  cases o with
  | some x => exact PrI.kps h k.k
  | none =>
    rcases h with h | ⟨p, xs, e, h, n⟩ | ⟨p, x, y, e, h, h1, h2, n⟩
    · exact .inl (h.kl k)
    · exact .inr (.inl ⟨p, xs, e, k.k.tup h, n⟩)
    · exact .inr (.inr ⟨p, x, y, e, k.k.tup h, h1.kl k, h2.kl k, n⟩)
/-- a thing: a tuple of items, or no tuple -/
def TAt (Z : Zs) (H : Hp) (v : V) : Option (List (Option (Int × Int))) → Prop
  | none => NT H v
  | some l => ∃ p xs, v = .ref p ∧ H p = some (.tup xs) ∧ LsAt (ItAt Z) H xs l
theorem TAt.kl {Z : Zs} {H H' : Hp} {v : V} {t : Option (List (Option (Int × Int)))} (h : TAt Z H v t) (k : KL H H') : TAt Z H' v t := by
  cases t with
  | none => exact NT.kl h k
  | some l =>
    obtain ⟨p, xs, e, h, ls⟩ := h
    exact ⟨p, xs, e, k.k.tup h, ls.imp fun v o h => h.kl k⟩
def restOk (m : Int) : Int → List (Option (Int × Int)) → Bool
  | _, [] => true
  | _, none :: _ => false
  | last, some x :: l => decide (last < x.1) && decide (x.1 < m) && decide (1 ≤ x.2) && restOk m x.1 l
def restT (m : Int) : Option (List (Option (Int × Int))) → Bool
  | none => false
  | some l => restOk m (-1) l
def prs (l : List (Option (Int × Int))) : List (Int × Int) := l.filterMap id
/-- no weight is too great -/
def wtOk (l : List (Option (Int × Int))) : Prop := ∀ x, some x ∈ l → Bw 80 x.2
def wtT (t : Option (List (Option (Int × Int)))) : Prop := ∀ l, t = some l → wtOk l
theorem restOk_spec {m : Int} : ∀ {l : List (Option (Int × Int))} {last : Int}, restOk m last l = true → l = (prs l).map some ∧ ∀ x ∈ prs l, last < x.1 ∧ x.1 < m ∧ 1 ≤ x.2
  | [], _, _ => ⟨rfl, fun x h => by cases h⟩
  | none :: _, _, h => by cases h
  | some x :: l, last, h => by
    simp only [restOk, Bool.and_eq_true, decide_eq_true_iff] at h
    obtain ⟨⟨⟨h1, h2⟩, h3⟩, h4⟩ := h
    obtain ⟨i1, i2⟩ := restOk_spec h4
    have e : prs (some x :: l) = x :: prs l := rfl
    rw [e]
    refine ⟨by rw [List.map_cons, ← i1], fun y hy => ?_⟩
    rcases List.mem_cons.mp hy with rfl | hy
    · exact ⟨h1, h2, h3⟩
    · obtain ⟨a, b, c⟩ := i2 y hy
      exact ⟨by omega, b, c⟩
/-- sums of vectors and of numbers -/
def sumX (xs : List Bn) : List (Int × Int) → Int → Int
  | [], a => a
  | x :: l, a => sumX xs l (a + x.2 * vx (xs.getD x.1.toNat ⟨0, 0, 0, 1⟩).d)
def sumY (xs : List Bn) : List (Int × Int) → Int → Int
  | [], a => a
  | x :: l, a => sumY xs l (a + x.2 * vy (xs.getD x.1.toNat ⟨0, 0, 0, 1⟩).d)
def sumN (xs : List Bn) : List (Int × Int) → Nu → Nu
  | [], a => a
  | x :: l, a => sumN xs l (plN a (scN x.2 (nuB (xs.getD x.1.toNat ⟨0, 0, 0, 1⟩))))
def barsT (xs : List Bn) (t : Option (List (Option (Int × Int)))) : Bool := match t with
  | none => false
  | some l => restOk (xs.length : Int) (-1) l && (decide (2 ≤ (l.length : Int)) && decide ((l.length : Int) ≤ 3)) && (decide (sumX xs (prs l) 0 = 0) && (decide (sumY xs (prs l) 0 = 0) && decide (sg2 (sumN xs (prs l) ⟨0, 0, 1⟩).t (sumN xs (prs l) ⟨0, 0, 1⟩).r ≤ 0)))
/-- a Root with the value of a number -/
def RpAt (Z : Zs) (H : Hp) (v : V) (m k : Nat) (n : Nu) : Prop := ∃ t r b, RootAt Z.c_Root H v t r b ∧ Sm t r b ∧ Bw m t ∧ Bw m r ∧ Bw k b ∧ Lq pF qF t r * n.b = Lv n * b
theorem RpAt.same {Z : Zs} {H H' : Hp} {v : V} {m k : Nat} {n : Nu} (h : RpAt Z H v m k n) (s : Same H H') : RpAt Z H' v m k n := by
  obtain ⟨t, r, b, h1, h2⟩ := h
  exact ⟨t, r, b, h1.same s, h2⟩
abbrev s_is_rest : Stmt := top 19
theorem sc_is_rest : FnScope ["thing", "many", "last", "part", "index", "weight"] ["thing", "many"] (defScope s_is_rest) := ⟨rfl, rfl, rfl, by decide +kernel, rfl, by decide +kernel, by decide +kernel⟩

def sp_is_rest (Z : Zs) : Sp := fun vs H Q E =>
  ∃ v t m, vs = [v, .int m] ∧ TAt Z H v t ∧ ∀ H', Same H H' → Q (.bl (restT m t)) H'
theorem ok_is_rest (T : Txt Z mg) (h_is_integral : Has P w Z.K mg base "is_integral" 1 ["thing"] (sp_is_integral Z)) (D : AtF Z.K mg "is_rest" "is_rest" s_is_rest ["thing", "many"]) : Has P w Z.K mg base "is_rest" 2 ["thing", "many"] (sp_is_rest Z) := by
  refine D.ok sc_is_rest (fun vs H Q E h => ?_) (fun cdv A outer s H vs Q E hr h => ?_)
  · obtain ⟨v, t, m, rfl, _⟩ := h
    rfl
  · refine ⟨_, (pss_cons (ps_if (pt_not (pt_val (pe_callB call_isi rfl T.n_isinstance (by decide +kernel) (pa_cons (pv 0) (pa_cons (pe_bltn (v := .ty "tuple") rfl T.n_tuple (by decide +kernel) rfl) pa_nil))))) (pss_one (ps_ret pe_bl)) pss_nil)
      (pss_cons (ps_set (i := 2) sc_is_rest.nd rfl (Or.inl rfl) (pe_un un_neg pe_int))
      (pss_cons (ps_for (passes_of rfl) rfl (pi_tup (pv 0)) (pg_name (i := 3) sc_is_rest.nd rfl (Or.inl rfl)) (pss_cons (ps_if (PW.pt (pw_or (pt_not (pt_val (pe_callB call_isi rfl T.n_isinstance (by decide +kernel) (pa_cons (pv 3) (pa_cons (pe_bltn (v := .ty "tuple") rfl T.n_tuple (by decide +kernel) rfl) pa_nil))))) (pw_or1 (pt_cmpR op_ne (pe_callB cn_len rfl T.n_len (by decide +kernel) (pa_cons (pv 3) pa_nil)) pe_int (nomark _))))) (pss_one (ps_ret pe_bl)) pss_nil)
      (pss_cons (ps_asg (pv 3) (pg_tup rfl (pgs_cons (pg_name (i := 4) sc_is_rest.nd rfl (Or.inl rfl)) (pgs_cons (pg_name (i := 5) sc_is_rest.nd rfl (Or.inl rfl)) pgs_nil))))
      (pss_cons (ps_if (PW.pt (pw_or (pt_not (pt_val (pe_h (E := ED E) h_is_integral hr (paW (takes_of rfl rfl rfl rfl)) (pa_cons (pv 4) pa_nil)))) (pw_or (pt_not (pt_chain op_lt op_lt (pv 2) (pv 4) (pv 1))) (pw_or (pt_not (pt_val (pe_h (E := ED E) h_is_integral hr (paW (takes_of rfl rfl rfl rfl)) (pa_cons (pv 5) pa_nil)))) (pw_or1 (pt_cmpR op_lt (pv 5) pe_int (nomark _))))))) (pss_one (ps_ret pe_bl)) pss_nil)
      (pss_one (ps_set (i := 2) sc_is_rest.nd rfl (Or.inl rfl) (pv 4)))))))
      (pss_one (ps_ret pe_bl))))), ?_⟩
    try simp only [cxOf]
    obtain ⟨v, t, m, rfl, hT, q⟩ := h
    walk_at "W"
    cases t with
    | none =>
      obtain ⟨pl, nt⟩ := NT.plain hT
      obtain ⟨ty, hty, _, _, k⟩ := pl.ty (K := Z.K)
      rw [nt] at k
      refine w_isi hty k ?_
      walk_at "W"
      exact q H (Same.refl _)
    | some l =>
    obtain ⟨p, xs, rfl, ep, ls⟩ := hT
    obtain ⟨ty, hty, _, _, k⟩ := (Plain.tup p _ ep).ty (K := Z.K)
    rw [isTu_tup ep] at k
    refine w_isi hty k ?_
    walk_at "W"
    refine k_forT (xs := xs) (fun i σ' H' => (∃ (last : Int) (y3 y4 y5 : Option V), σ' = [some (.ref p), some (.int m), some (.int last), y3, y4, y5] ∧ restOk m (-1) l = restOk m last (l.drop i)) ∧ Same H H') ep ⟨⟨_, _, _, _, rfl, rfl⟩, Same.refl _⟩ (fun i σ' H' h => h.2 _ _ ep) ?_ ?_
    · rintro i y σ' H2 hy ⟨⟨last, y3, y4, y5, rfl, er⟩, s2⟩
      obtain ⟨o, eo, ho⟩ := ls.get hy
      have dr : l.drop i = o :: l.drop (i + 1) := by
        obtain ⟨h1, h2⟩ := List.getElem?_eq_some_iff.mp eo
        rw [List.drop_eq_getElem_cons h1, h2]
      have ho2 := ho.kl (KL.same s2)
      have bad : o = none → restT m (some l) = false := fun e => by
        show restOk m (-1) l = false
        rw [er, dr, e]
        rfl
      walk_at "W"
      cases o with
      | none =>
        have fin : Q (.bl false) H2 := by
          have := q H2 s2
          rwa [bad rfl] at this
        rcases ho2 with nt | ⟨py, zs, rfl, ey, nl⟩ | ⟨py, x, z, rfl, ey, tx, tz, ni⟩
        · obtain ⟨pl, nt⟩ := NT.plain nt
          obtain ⟨ty, hty, _, _, k⟩ := pl.ty (K := Z.K)
          rw [nt] at k
          refine w_isi hty k ?_
          walk_at "W"
          exact fin
        · obtain ⟨ty, hty, _, _, k⟩ := (Plain.tup py _ ey).ty (K := Z.K)
          rw [isTu_tup ey] at k
          refine w_isi hty k ?_
          walk_at "W"
          refine w_lenT (SqT.of ey) ?_
          walk_at "W"
          rw [show decide (V.int ((zs.length : Nat) : Int) = V.int 2) = false from (dec_len (k := 2)).trans (decide_eq_false nl)]
          walk_at "W"
          exact fin
        · obtain ⟨ty, hty, _, _, k⟩ := (Plain.tup py _ ey).ty (K := Z.K)
          rw [isTu_tup ey] at k
          refine w_isi hty k ?_
          walk_at "W"
          refine w_lenT (SqT.of ey) ?_
          walk_at "W"
          refine k_tupl2 ey rfl rfl ?_
          walk_at "W"
          refine ⟨x, rfl, tx, ?_⟩
          cases e1 : isI x with
          | false =>
            walk_at "W"
            exact fin
          | true =>
            obtain ⟨i', rfl⟩ : ∃ i', x = .int i' := by cases x <;> first | exact ⟨_, rfl⟩ | cases e1
            walk_at "W"
            have e2 : isI z = false := by simpa [isI] using ni
            have tail : ∀ {QB : Bool → Hp → Prop}, QB true H2 → (∃ k, V.bl (isI z) = V.bl k ∧ QB (!k) H2) := fun h => ⟨isI z, rfl, by rw [e2]; exact h⟩
            by_cases c1 : last < i'
            · rw [decide_eq_true c1]
              walk_at "W"
              by_cases c2 : i' < m
              · rw [decide_eq_true c2]
                walk_at "W"
                refine ⟨z, rfl, tz, ?_⟩
                rw [e2]
                walk_at "W"
                exact fin
              · rw [decide_eq_false c2]
                walk_at "W"
                exact fin
            · rw [decide_eq_false c1]
              walk_at "W"
              exact fin
      | some x =>
        obtain ⟨py, rfl, ey⟩ := ho2
        obtain ⟨ty, hty, _, _, k⟩ := (Plain.tup py _ ey).ty (K := Z.K)
        rw [isTu_tup ey] at k
        refine w_isi hty k ?_
        walk_at "W"
        refine w_lenT (SqT.of ey) ?_
        walk_at "W"
        refine k_tupl2 ey rfl rfl ?_
        walk_at "W"
        refine ⟨_, rfl, (Plain.int _).thI, ?_⟩
        walk_at "W"
        have no : (decide (last < x.1) && decide (x.1 < m) && decide (1 ≤ x.2)) = false → Q (.bl false) H2 := fun h => by
          have := q H2 s2
          rwa [show restT m (some l) = false by show restOk m (-1) l = false; rw [er, dr, restOk, h]; rfl] at this
        by_cases c1 : last < x.1
        · rw [decide_eq_true c1]
          walk_at "W"
          by_cases c2 : x.1 < m
          · rw [decide_eq_true c2]
            walk_at "W"
            refine ⟨_, rfl, (Plain.int _).thI, ?_⟩
            walk_at "W"
            by_cases c3 : x.2 < 1
            · rw [decide_eq_true c3]
              walk_at "W"
              exact no (by rw [decide_eq_false (show ¬ 1 ≤ x.2 by omega)]; simp)
            · rw [decide_eq_false c3]
              walk_at "W"
              refine ⟨⟨_, _, _, _, rfl, ?_⟩, s2⟩
              rw [er, dr, restOk, decide_eq_true c1, decide_eq_true c2, decide_eq_true (show 1 ≤ x.2 by omega)]
              rfl
          · rw [decide_eq_false c2]
            walk_at "W"
            exact no (by rw [decide_eq_false c2]; simp)
        · rw [decide_eq_false c1]
          walk_at "W"
          exact no (by rw [decide_eq_false c1]; simp)
    · rintro σ' H2 ⟨⟨last, y3, y4, y5, rfl, er⟩, s2⟩
      walk_at "W"
      have := q H2 s2
      rwa [show restT m (some l) = true by show restOk m (-1) l = true; rw [er, ls.1, List.drop_length]; rfl] at this
theorem rp_zero {Z : Zs} {H : Hp} {v : V} (h : RootAt Z.c_Root H v 0 0 1) : RpAt Z H v 1 1 ⟨0, 0, 1⟩ := ⟨0, 0, 1, h, sm_int (Bw.zero.mono (by decide)), by unfold Bw; decide, by unfold Bw; decide, by unfold Bw; decide, by simp [Lv, Lq]⟩
theorem rp_add {Z : Zs} {H : Hp} {v' : V} {t r b t' r' b' : Int} {m k : Nat} {n y : Nu} {w : Int} (hv : LowAt Z.c_Root H v' (plus.t t r b t' r' b') (plus.r t r b t' r' b') (plus.b t r b t' r' b')) (b0 : 0 < b) (b0' : 0 < b') (w1 : Bw m t) (w2 : Bw m r) (w3 : Bw k b) (n0 : 0 < n.b) (y0 : 0 < y.b) (e : Lq pF qF t r * n.b = Lv n * b)
    (w1' : Bw 282 t') (w2' : Bw 282 r') (w3' : Bw 91 b') (e' : Lq pF qF t' r' * y.b = Lv y * w * b') (hm : 100 ≤ m + 300) (km : k ≤ m) (m9 : m ≤ 690) (k9 : k ≤ 277) : RpAt Z H v' (m + 300) (k + 92) (plN n (scN w y)) := by
  have bb : 0 < b * b' := Int.mul_pos b0 b0'
  have P1 : Bw (m + 300) (plus.t t r b t' r' b') := ((w1.mul w3').add (w1'.mul w3)).mono (by omega)
  have P2 : Bw (m + 300) (plus.r t r b t' r' b') := ((w2.mul w3').add (w2'.mul w3)).mono (by omega)
  have P3 : Bw (k + 92) (b * b') := (w3.mul w3').mono (by omega)
  obtain ⟨a1, a2, a3⟩ := bw_lows (t := plus.t t r b t' r' b') (r := plus.r t r b t' r' b') bb P1 P2 P3
  obtain ⟨s, hs, l1, l2⟩ := low_L FF (t := plus.t t r b t' r' b') (r := plus.r t r b t' r' b') bb
  refine ⟨_, _, _, hv, Sm.low (Int.ne_of_gt bb) (P1.mono (by omega)) (P2.mono (by omega)) (P3.mono (by omega)), a1, a2, a3, ?_⟩
  have pl := pl_L (p := pF) (q := qF) n (scN w y)
  rw [show Lq pF qF (scN w y).t (scN w y).r = w * Lv y by unfold Lv Lq scN; grind, show (scN w y).b = y.b from rfl, show Lq pF qF n.t n.r = Lv n from rfl, show Lq pF qF (plN n (scN w y)).t (plN n (scN w y)).r = Lv (plN n (scN w y)) from rfl] at pl
  rw [show Lq pF qF (plus.t t r b t' r' b') (plus.r t r b t' r' b') = Lq pF qF t r * b' + Lq pF qF t' r' * b by unfold Lq plus; dsimp only; grind] at l1
  show Lq pF qF (lowT (plus.t t r b t' r' b') (plus.r t r b t' r' b') (b * b')) (lowR (plus.t t r b t' r' b') (plus.r t r b t' r' b') (b * b')) * (plN n (scN w y)).b = Lv (plN n (scN w y)) * lowB (plus.t t r b t' r' b') (plus.r t r b t' r' b') (b * b')
  generalize Lq pF qF (lowT (plus.t t r b t' r' b') (plus.r t r b t' r' b') (b * b')) (lowR (plus.t t r b t' r' b') (plus.r t r b t' r' b') (b * b')) = L at *
  generalize lowB (plus.t t r b t' r' b') (plus.r t r b t' r' b') (b * b') = B at *
  generalize (plN n (scN w y)).b = f at *
  generalize Lv (plN n (scN w y)) = V at *
  generalize Lq pF qF t r = A at *
  generalize Lq pF qF t' r' = A' at *
  generalize Lv n = N at *
  generalize Lv y = Y at *
  have K : s * (n.b * y.b) ≠ 0 := Int.ne_of_gt (Int.mul_pos hs (Int.mul_pos n0 y0))
  refine Int.eq_of_mul_eq_mul_right K ?_
  rw [show L * f * (s * (n.b * y.b)) = L * s * f * (n.b * y.b) by grind, ← l1, show V * B * (s * (n.b * y.b)) = V * (n.b * y.b) * (B * s) by grind, pl, ← l2]
  rw [show (A * b' + A' * b) * f * (n.b * y.b) = (A * n.b * b' * y.b + A' * y.b * b * n.b) * f by grind, e, e']
  grind
theorem rp_prodI {x : Bn} {w i : Int} (hx : rw2 x) (e1 : lowT x.t x.r x.b = i) (e2 : lowR x.t x.r x.b = 0) (e3 : lowB x.t x.r x.b = 1) (ww : Bw 80 w) : Sm (i * w) 0 1 ∧ Bw 282 (i * w) ∧ Lq pF qF (i * w) 0 * x.b = Lv (nuB x) * w * 1 := by
  obtain ⟨a1, -, -⟩ := bw_lows (t := x.t) (r := x.r) hx.2.1 hx.2.2.1 hx.2.2.2.1 hx.2.2.2.2
  replace a1 : Bw 200 (lowT x.t x.r x.b) := a1
  rw [e1] at a1
  have wi : Bw 280 (i * w) := (a1.mul ww).mono (by decide)
  obtain ⟨s, hs, l1, l2⟩ := low_L FF (t := x.t) (r := x.r) hx.2.1
  replace l1 : Lq pF qF x.t x.r = Lq pF qF (lowT x.t x.r x.b) (lowR x.t x.r x.b) * s := l1
  replace l2 : x.b = lowB x.t x.r x.b * s := l2
  rw [e1, e2] at l1
  rw [e3] at l2
  refine ⟨sm_int (wi.mono (by decide)), wi.mono (by decide), ?_⟩
  show _ = Lq pF qF x.t x.r * w * 1
  rw [l1, l2]
  unfold Lq
  grind
theorem rp_prodR {x : Bn} {w : Int} (hx : rw2 x) (ww : Bw 80 w) :
    let t := times.t (lowT x.t x.r x.b) (lowR x.t x.r x.b) (lowB x.t x.r x.b) w 0 1
    let r := times.r (lowT x.t x.r x.b) (lowR x.t x.r x.b) (lowB x.t x.r x.b) w 0 1
    let b := times.b (lowT x.t x.r x.b) (lowR x.t x.r x.b) (lowB x.t x.r x.b) w 0 1
    Sm (lowT t r b) (lowR t r b) (lowB t r b) ∧ Bw 282 (lowT t r b) ∧ Bw 282 (lowR t r b) ∧ Bw 91 (lowB t r b) ∧ Lq pF qF (lowT t r b) (lowR t r b) * x.b = Lv (nuB x) * w * lowB t r b := by
  intro t r b
  obtain ⟨a1, a2, a3⟩ := bw_lows (t := x.t) (r := x.r) hx.2.1 hx.2.2.1 hx.2.2.2.1 hx.2.2.2.2
  have lp := (low_is (t := x.t) (r := x.r) (Int.ne_of_gt hx.2.1)).pos
  have bb : 0 < b := Int.mul_pos lp (by decide)
  have P1 : Bw 282 t := ((a1.mul ww).add ((two_bw a2).mul Bw.zero)).mono (by decide)
  have P2 : Bw 282 r := ((a1.mul Bw.zero).add (a2.mul ww)).mono (by decide)
  have P3 : Bw 91 b := (a3.mul Bw.one).mono (by decide)
  obtain ⟨c1, c2, c3⟩ := bw_lows bb P1 P2 P3
  refine ⟨Sm.low (Int.ne_of_gt bb) (P1.mono (by decide)) (P2.mono (by decide)) (P3.mono (by decide)), c1, c2, c3, ?_⟩
  obtain ⟨s, hs, l1, l2⟩ := low_L FF (t := x.t) (r := x.r) hx.2.1
  obtain ⟨s', hs', l1', l2'⟩ := low_L FF (t := t) (r := r) bb
  have lt' : Lq pF qF t r = w * Lq pF qF (lowT x.t x.r x.b) (lowR x.t x.r x.b) := by
    show Lq pF qF (lowT x.t x.r x.b * w + 2 * lowR x.t x.r x.b * 0) (lowT x.t x.r x.b * 0 + lowR x.t x.r x.b * w) = _
    unfold Lq
    grind
  have eb : b = lowB x.t x.r x.b := by show lowB x.t x.r x.b * 1 = _; omega
  rw [lt'] at l1'
  show _ = Lq pF qF x.t x.r * w * _
  rw [show (nuB x).b = x.b from rfl] at l2
  rw [show Lq pF qF (lowT x.t x.r (nuB x).b) (lowR x.t x.r (nuB x).b) = Lq pF qF (lowT x.t x.r x.b) (lowR x.t x.r x.b) from rfl] at l1
  rw [l1]
  refine Int.eq_of_mul_eq_mul_right (Int.ne_of_gt hs') ?_
  have xb : x.b = lowB t r b * s' * s := by rw [← l2', eb]; exact l2
  generalize Lq pF qF (lowT t r b) (lowR t r b) = L at *
  generalize Lq pF qF (lowT x.t x.r x.b) (lowR x.t x.r x.b) = M at *
  generalize lowB t r b = B at *
  rw [xb]
  grind
theorem sumN_ok {xs : List Bn} (hx : ∀ x ∈ xs, rw2 x) : ∀ {l : List (Int × Int)} {acc : Nu} {a b : Nat}, (∀ x ∈ l, 0 ≤ x.1 ∧ x.1 < xs.length ∧ Bw 80 x.2) → b ≤ a + 100 → Nu.ok a b acc → Nu.ok (a + 400 * l.length) (b + 90 * l.length) (sumN xs l acc)
  | [], acc, a, b, _, _, o => o
  | x :: l, acc, a, b, hl, hab, o => by
    obtain ⟨x0, x1, xw⟩ := hl x (List.mem_cons_self ..)
    have ix : x.1.toNat < xs.length := by omega
    have eg : xs.getD x.1.toNat ⟨0, 0, 0, 1⟩ = xs[x.1.toNat] := by rw [List.getD_eq_getElem?_getD, List.getElem?_eq_getElem ix]; rfl
    have ox := hx _ (List.getElem_mem ix)
    rw [sumN, eg]
    have := sumN_ok hx (l := l) (a := a + 400) (b := b + 90) (fun y hy => hl y (List.mem_cons_of_mem _ hy)) (by omega) ((plN_ok o (scN_okG ox.2 xw)).mono (by omega) (by omega))
    rw [List.length_cons]
    exact this.mono (by omega) (by omega)
abbrev s_rest_sum : Stmt := top 20
theorem sc_rest_sum : FnScope ["bounds", "rest", "x", "y", "total", "index", "weight", "d", "number"] ["bounds", "rest"] (defScope s_rest_sum) := ⟨rfl, rfl, rfl, by decide +kernel, rfl, by decide +kernel, by decide +kernel⟩

def sp_rest_sum (Z : Zs) : Sp := fun vs H Q E =>
  ∃ (a p : Addr) (vs' : List V) (xs : List Bn) (zs : List V) (l : List (Int × Int)), vs = [.ref a, .ref p] ∧ H a = some (.lst vs') ∧ BnsAt Z.c_Root H vs' (xs.map lowN) ∧ (∀ x ∈ xs, rw2 x) ∧ H p = some (.tup zs) ∧ LsAt PrI H zs l ∧ (∀ x ∈ l, 0 ≤ x.1 ∧ x.1 < xs.length ∧ Bw 80 x.2) ∧ l.length ≤ 3 ∧ ∀ u v H', Same H H' → H' u = some (.tup [.int (sumX xs l 0), .int (sumY xs l 0), v]) → RpAt Z H' v 901 277 (sumN xs l ⟨0, 0, 1⟩) → 0 < (sumN xs l ⟨0, 0, 1⟩).b → Q (.ref u) H'
theorem ok_rest_sum (T : Txt Z mg) (h_Root : HasC P w Z.K mg base "Root" Z.c_Root 3 ["self", "top", "root", "bottom"] (sp_Root_init Z)) (h_Root_add : HasM P w Z.K mg base Z.c_Root "__add__" 6 ["self", "other"] (sp_Root_add Z)) (h_Root_radd : HasM P w Z.K mg base Z.c_Root "__radd__" 7 ["self", "other"] (sp_Root_radd Z)) (h_Root_mul : HasM P w Z.K mg base Z.c_Root "__mul__" 6 ["self", "other"] (sp_Root_mul Z)) (h_Root_rmul : HasM P w Z.K mg base Z.c_Root "__rmul__" 7 ["self", "other"] (sp_Root_rmul Z)) (D : AtF Z.K mg "rest_sum" "rest_sum" s_rest_sum ["bounds", "rest"]) : Has P w Z.K mg base "rest_sum" 8 ["bounds", "rest"] (sp_rest_sum Z) := by
  refine D.ok sc_rest_sum (fun vs H Q E h => ?_) (fun cdv A outer s H vs Q E hr h => ?_)
  · obtain ⟨a, p, vs', xs, zs, l, rfl, _⟩ := h
    rfl
  · refine ⟨_, (pss_cons (ps_set (i := 2) sc_rest_sum.nd rfl (Or.inl rfl) pe_int)
      (pss_cons (ps_set (i := 3) sc_rest_sum.nd rfl (Or.inl rfl) pe_int)
      (pss_cons (ps_set (i := 4) sc_rest_sum.nd rfl (Or.inl rfl) (pe_hc (E := ED E) h_Root hr (paW (takes_of rfl rfl rfl rfl)) (pa_cons pe_int (pa_cons pe_int (pa_cons pe_int pa_nil)))))
      (pss_cons (ps_for (passes_of rfl) rfl (pi_tup (pv 1)) (pg_tup rfl (pgs_cons (pg_name (i := 5) sc_rest_sum.nd rfl (Or.inl rfl)) (pgs_cons (pg_name (i := 6) sc_rest_sum.nd rfl (Or.inl rfl)) pgs_nil))) (pss_cons (ps_asg (pe_ix ix_seq (pv 0) (pv 5) (fun _ _ => rfl)) (pg_tup rfl (pgs_cons (pg_name (i := 7) sc_rest_sum.nd rfl (Or.inl rfl)) (pgs_cons (pg_name (i := 8) sc_rest_sum.nd rfl (Or.inl rfl)) pgs_nil))))
      (pss_cons (ps_set (i := 2) sc_rest_sum.nd rfl (Or.inl rfl) (pe_op op_add (pv 2) (pe_op op_mulS (pv 6) (pe_ix ix_seq (pe_ix ix_seq (pe_glob (v := .ref Z.c_VECTORS) rfl T.g_VECTORS rfl) (pv 7) (fun _ _ => rfl)) pe_int (fun _ _ => rfl)))))
      (pss_cons (ps_set (i := 3) sc_rest_sum.nd rfl (Or.inl rfl) (pe_op op_add (pv 3) (pe_op op_mulS (pv 6) (pe_ix ix_seq (pe_ix ix_seq (pe_glob (v := .ref Z.c_VECTORS) rfl T.g_VECTORS rfl) (pv 7) (fun _ _ => rfl)) pe_int (fun _ _ => rfl)))))
      (pss_one (ps_set (i := 4) sc_rest_sum.nd rfl (Or.inl rfl) (pe_op (op_addB T.ow h_Root_add h_Root_radd hr passL) (pv 4) (pe_op ((op_mulB T.ow h_Root_mul h_Root_rmul hr passL).or op_mulS) (pv 8) (pv 6)))))))))
      (pss_one (ps_ret (pe_tup (pa_cons (pv 2) (pa_cons (pv 3) (pa_cons (pv 4) pa_nil)))))))))), ?_⟩
    try simp only [cxOf]
    obtain ⟨a, p, vs', xs, zs, l, rfl, ea, hb, okx, ep, ls, hl, l3, q⟩ := h
    obtain ⟨cs, hcs, hcv⟩ := vec_at T
    walk_at "W"
    refine k_mkRootI (by decide) (Bw.one.bd (by decide)) fun t0 H1 s1 h1 => ?_
    have h1' : RootAt Z.c_Root H1 t0 0 0 1 := by
      obtain ⟨e1, e2, e3⟩ := low1 0
      rwa [e1, e2, e3] at h1
    walk_at "W"
    refine k_forT (xs := zs) (fun i σ' H' => (∃ (X Y : Int) (tv : V) (acc : Nu) (y5 y6 y7 y8 : Option V), σ' = [some (.ref a), some (.ref p), some (.int X), some (.int Y), some tv, y5, y6, y7, y8] ∧ sumX xs l 0 = sumX xs (l.drop i) X ∧ sumY xs l 0 = sumY xs (l.drop i) Y ∧ sumN xs l ⟨0, 0, 1⟩ = sumN xs (l.drop i) acc ∧ RpAt Z H' tv (1 + 300 * i) (1 + 92 * i) acc ∧ 0 < acc.b) ∧ Same H1 H') (s1 _ _ ep) ⟨⟨_, _, _, ⟨0, 0, 1⟩, _, _, _, _, rfl, rfl, rfl, rfl, rp_zero h1', by decide⟩, Same.refl _⟩ (fun i σ' H' h => h.2 _ _ (s1 _ _ ep)) ?_ ?_
    · rintro i y σ' H2 hy ⟨⟨X, Y, tv, acc, y5, y6, y7, y8, rfl, eX, eY, eN, hrp, ab⟩, s2⟩
      have S2 := s1.trans s2
      obtain ⟨x, ex, py, rfl, ey⟩ := ls.get hy
      obtain ⟨x0, x1, xw⟩ := hl x (List.mem_of_getElem? ex)
      have il : i < 3 := by have := (List.getElem?_eq_some_iff.mp ex).1; omega
      have dr : l.drop i = x :: l.drop (i + 1) := by
        obtain ⟨h1, h2⟩ := List.getElem?_eq_some_iff.mp ex
        rw [List.drop_eq_getElem_cons h1, h2]
      have ix : x.1.toNat < xs.length := by omega
      have eg : xs.getD x.1.toNat ⟨0, 0, 0, 1⟩ = xs[x.1.toNat] := by rw [List.getD_eq_getElem?_getD, List.getElem?_eq_getElem ix]; rfl
      have exg : (xs.map lowN)[x.1.toNat]? = some (lowN xs[x.1.toNat]) := by rw [List.getElem?_map, List.getElem?_eq_getElem ix]; rfl
      obtain ⟨bv, ebv, hbv⟩ := hb.at' exg
      have okb := okx _ (List.getElem_mem ix)
      rw [dr, sumX, eg] at eX
      rw [dr, sumY, eg] at eY
      rw [dr, sumN, eg] at eN
      generalize xs[x.1.toNat] = bx at *
      obtain ⟨pb, yb, rfl, epb, nyb, smb⟩ := hbv.same S2
      obtain ⟨qa, hqa, sqa⟩ := hcv bx.d okb.1
      obtain ⟨v1, v2⟩ := v_bw okb.1
      have ei : atI vs' x.1 = some (.ref pb) := by
        have := atI_nat ebv
        rwa [Int.toNat_of_nonneg x0] at this
      refine k_tupl2 (S2 _ _ ey) rfl rfl ?_
      walk_at "W"
      refine w_ixL (S2 _ _ ea) ei ?_
      refine k_tupl2 epb rfl rfl ?_
      walk_at "W"
      refine w_ixS (hcs _) (atI_nat hqa) ?_
      walk_at "W"
      refine w_ixS (sqa _) rfl ?_
      walk_at "W"
      refine w_I (bwm xw v1 (by decide)) ?_
      walk_at "W"
      refine w_ixS (hcs _) (atI_nat hqa) ?_
      walk_at "W"
      refine w_ixS (sqa _) rfl ?_
      walk_at "W"
      refine w_I (bwm xw v2 (by decide)) ?_
      walk_at "W"
      obtain ⟨t, r, b, hR, smR, wR1, wR2, wR3, eR⟩ := hrp
      have b0 := smR.pos
      have fin : ∀ {v' : V} {H4 : Hp} {t' r' b' : Int}, Same H2 H4 → NumAt Z.c_Root H4 v' t' r' b' → Sm t' r' b' → Bw 282 t' → Bw 282 r' → Bw 91 b' → Lq pF qF t' r' * bx.b = Lv (nuB bx) * x.2 * b' → ∀ {QQ : VK}, (∀ u H5, Same H2 H5 → RpAt Z H5 u (1 + 300 * i + 300) (1 + 92 * i + 92) (plN acc (scN x.2 (nuB bx))) → QQ u H5) → rOwnB Z.c_Root (sp_Root_add Z) (sp_Root_radd Z) E0 tv v' H4 QQ := fun {v' H4 t' r' b'} s4 hn sm' c1 c2 c3 e' {QQ} k =>
        k_ownB rfl rfl (.inl (hR.same s4)) hn (.inl (hR.same s4)) smR sm' fun u H5 s5 hu => k u H5 (s4.trans s5) (rp_add hu b0 sm'.pos wR1 wR2 wR3 ab okb.2.1 eR c1 c2 c3 e' (by omega) (by omega) (by omega) (by omega))
      have pb0 : 0 < (plN acc (scN x.2 (nuB bx))).b := by
        unfold plN
        split
        · exact ab
        · exact Int.mul_pos ab okb.2.1
      have done : ∀ {u : V} {H5 : Hp}, Same H2 H5 → RpAt Z H5 u (1 + 300 * i + 300) (1 + 92 * i + 92) (plN acc (scN x.2 (nuB bx))) → RpAt Z H5 u (1 + 300 * (i + 1)) (1 + 92 * (i + 1)) (plN acc (scN x.2 (nuB bx))) := fun s h => h
      rcases nyb with hnr | ⟨i', rfl, e1, e2, e3⟩
      · refine .inl (k_ownB rfl rfl (.inl hnr) (.inr ⟨_, rfl, rfl, rfl, rfl⟩) (.inl hnr) smb (sm_int (xw.mono (by decide))) fun w4 H4 s4 h4 => ?_)
        obtain ⟨g1, g2, g3, g4, g5⟩ := rp_prodR okb xw
        refine fin s4 (.inl h4) g1 g2 g3 g4 g5 fun u H5 s5 hu => ?_
        walk_at "W"
        exact ⟨⟨_, _, _, _, _, _, _, _, rfl, eX, eY, eN, done s5 hu, pb0⟩, s2.trans s5⟩
      · obtain ⟨g1, g2, g3⟩ := rp_prodI okb e1 e2 e3 xw
        refine .inr (w_I (bwm (m := 1000) (n := 80) ?_ xw (by decide)) ?_)
        · have := smb.ht
          rwa [show (lowN bx).t = i' from e1] at this
        refine fin (Same.refl _) (.inr ⟨_, rfl, rfl, rfl, rfl⟩) g1 g2 (Bw.zero.mono (by decide)) (Bw.one.mono (by decide)) g3 fun u H5 s5 hu => ?_
        walk_at "W"
        exact ⟨⟨_, _, _, _, _, _, _, _, rfl, eX, eY, eN, done s5 hu, pb0⟩, s2.trans s5⟩
    · rintro σ' H2 ⟨⟨X, Y, tv, acc, y5, y6, y7, y8, rfl, eX, eY, eN, hrp, ab⟩, s2⟩
      rw [ls.1, List.drop_length] at eX eY eN
      walk_at "W"
      refine k_tup rfl fun u H3 hu s3 e3 => ?_
      have zl : zs.length ≤ 3 := by rw [ls.1]; exact l3
      obtain ⟨t, r, b, g1, g2, g3, g4, g5, g6⟩ := hrp
      refine q u tv H3 (s1.trans (s2.trans s3)) (by rw [e3, eX, eY]; rfl) ?_ (by rw [eN]; exact ab)
      rw [eN]
      exact ⟨t, r, b, g1.same s3, g2, g3.mono (by omega), g4.mono (by omega), g5.mono (by omega), g6⟩
def wT (m lo hi : Int) (t : Option (List (Option (Int × Int)))) : Bool := match t with
  | none => false
  | some l => (decide (lo ≤ (l.length : Int)) && decide ((l.length : Int) ≤ hi)) && restOk m (-1) l
abbrev s__law_are_weights : Stmt := top 44
theorem sc__law_are_weights : FnScope ["rows", "thing", "least", "most", "last", "item"] ["rows", "thing", "least", "most"] (defScope s__law_are_weights) := ⟨rfl, rfl, rfl, by decide +kernel, rfl, by decide +kernel, by decide +kernel⟩

def sp__law_are_weights (Z : Zs) : Sp := fun vs H Q E =>
  ∃ (a : Addr) (ws : List V) (v : V) (t : Option (List (Option (Int × Int)))) (lo hi : Int), vs = [.ref a, v, .int lo, .int hi] ∧ H a = some (.lst ws) ∧ TAt Z H v t ∧ ∀ H', Same H H' → Q (.bl (wT (ws.length : Nat) lo hi t)) H'
theorem ok__law_are_weights (T : Txt Z mg) (h__law_is_integer : Has P w Z.K mg base "_law_is_integer" 1 ["thing"] (sp__law_is_integer Z)) (D : AtF Z.K mg "_law_are_weights" "_law_are_weights" s__law_are_weights ["rows", "thing", "least", "most"]) : Has P w Z.K mg base "_law_are_weights" 2 ["rows", "thing", "least", "most"] (sp__law_are_weights Z) := by
  refine D.ok sc__law_are_weights (fun vs H Q E h => ?_) (fun cdv A outer s H vs Q E hr h => ?_)
  · obtain ⟨a, ws, v, t, lo, hi, rfl, _⟩ := h
    rfl
  · refine ⟨_, (pss_cons (ps_if (PW.pt (pw_or (pt_not (pt_val (pe_callB call_isi rfl T.n_isinstance (by decide +kernel) (pa_cons (pv 1) (pa_cons (pe_bltn (v := .ty "tuple") rfl T.n_tuple (by decide +kernel) rfl) pa_nil))))) (pw_or1 (pt_not (pt_chain op_le op_le (pv 2) (pe_callB cn_len rfl T.n_len (by decide +kernel) (pa_cons (pv 1) pa_nil)) (pv 3)))))) (pss_one (ps_ret pe_bl)) pss_nil)
      (pss_cons (ps_set (i := 4) sc__law_are_weights.nd rfl (Or.inl rfl) (pe_un un_neg pe_int))
      (pss_cons (ps_for (passes_of rfl) rfl (pi_tup (pv 1)) (pg_name (i := 5) sc__law_are_weights.nd rfl (Or.inl rfl)) (pss_cons (ps_if (PW.pt (pw_or (pt_not (pt_val (pe_callB call_isi rfl T.n_isinstance (by decide +kernel) (pa_cons (pv 5) (pa_cons (pe_bltn (v := .ty "tuple") rfl T.n_tuple (by decide +kernel) rfl) pa_nil))))) (pw_or1 (pt_cmpR op_ne (pe_callB cn_len rfl T.n_len (by decide +kernel) (pa_cons (pv 5) pa_nil)) pe_int (nomark _))))) (pss_one (ps_ret pe_bl)) pss_nil)
      (pss_cons (ps_if (PW.pt (pw_or (pt_not (pt_val (pe_h (E := ED E) h__law_is_integer hr (paW (takes_of rfl rfl rfl rfl)) (pa_cons (pe_ix ix_seq (pv 5) pe_int (fun _ _ => rfl)) pa_nil)))) (pw_or1 (pt_not (pt_val (pe_h (E := ED E) h__law_is_integer hr (paW (takes_of rfl rfl rfl rfl)) (pa_cons (pe_ix ix_seq (pv 5) pe_int (fun _ _ => rfl)) pa_nil))))))) (pss_one (ps_ret pe_bl)) pss_nil)
      (pss_cons (ps_if (PW.pt (pw_or (pt_not (pt_chain op_lt op_lt (pv 4) (pe_ix ix_seq (pv 5) pe_int (fun _ _ => rfl)) (pe_callB cn_len rfl T.n_len (by decide +kernel) (pa_cons (pv 0) pa_nil)))) (pw_or1 (pt_cmpR op_lt (pe_ix ix_seq (pv 5) pe_int (fun _ _ => rfl)) pe_int (nomark _))))) (pss_one (ps_ret pe_bl)) pss_nil)
      (pss_one (ps_set (i := 4) sc__law_are_weights.nd rfl (Or.inl rfl) (pe_ix ix_seq (pv 5) pe_int (fun _ _ => rfl))))))))
      (pss_one (ps_ret pe_bl))))), ?_⟩
    try simp only [cxOf]
    obtain ⟨a, ws, v, t, lo, hi, rfl, ea, hT, q⟩ := h
    walk_at "W"
    cases t with
    | none =>
      obtain ⟨pl, nt⟩ := NT.plain hT
      obtain ⟨ty, hty, _, _, k⟩ := pl.ty (K := Z.K)
      rw [nt] at k
      refine w_isi hty k ?_
      walk_at "W"
      exact q H (Same.refl _)
    | some l =>
    obtain ⟨p, xs, rfl, ep, ls⟩ := hT
    obtain ⟨ty, hty, _, _, k⟩ := (Plain.tup p _ ep).ty (K := Z.K)
    rw [isTu_tup ep] at k
    refine w_isi hty k ?_
    walk_at "W"
    refine w_lenT (SqT.of ep) ?_
    walk_at "W"
    have ll : xs.length = l.length := ls.1
    by_cases c1 : lo ≤ (xs.length : Int)
    case neg =>
      rw [decide_eq_false c1]
      walk_at "W"
      have := q H (Same.refl _)
      rwa [show wT (ws.length : Nat) lo hi (some l) = false by unfold wT; simp only [← ll, decide_eq_false c1]; rfl] at this
    rw [decide_eq_true c1]
    walk_at "W"
    by_cases c2 : (xs.length : Int) ≤ hi
    case neg =>
      rw [decide_eq_false c2]
      walk_at "W"
      have := q H (Same.refl _)
      rwa [show wT (ws.length : Nat) lo hi (some l) = false by unfold wT; simp only [← ll, decide_eq_false c2, Bool.and_false]; rfl] at this
    rw [decide_eq_true c2]
    walk_at "W"
    have res : wT (ws.length : Nat) lo hi (some l) = restOk (ws.length : Nat) (-1) l := by unfold wT; simp only [← ll, decide_eq_true c1, decide_eq_true c2, Bool.true_and]
    rw [res] at q
    generalize hm : ((ws.length : Nat) : Int) = m at *
    refine k_forT (xs := xs) (fun i σ' H' => (∃ (last : Int) (y5 : Option V), σ' = [some (.ref a), some (.ref p), some (.int lo), some (.int hi), some (.int last), y5] ∧ restOk m (-1) l = restOk m last (l.drop i)) ∧ Same H H') ep ⟨⟨_, _, rfl, rfl⟩, Same.refl _⟩ (fun i σ' H' h => h.2 _ _ ep) ?_ ?_
    · rintro i y σ' H2 hy ⟨⟨last, y5, rfl, er⟩, s2⟩
      obtain ⟨o, eo, ho⟩ := ls.get hy
      have dr : l.drop i = o :: l.drop (i + 1) := by
        obtain ⟨h1, h2⟩ := List.getElem?_eq_some_iff.mp eo
        rw [List.drop_eq_getElem_cons h1, h2]
      have ho2 := ho.kl (KL.same s2)
      walk_at "W"
      cases o with
      | none =>
        have fin : Q (.bl false) H2 := by
          have := q H2 s2
          rwa [er, dr] at this
        rcases ho2 with nt | ⟨py, zs, rfl, ey, nl⟩ | ⟨py, x, z, rfl, ey, tx, tz, ni⟩
        · obtain ⟨pl, nt⟩ := NT.plain nt
          obtain ⟨ty, hty, _, _, k⟩ := pl.ty (K := Z.K)
          rw [nt] at k
          refine w_isi hty k ?_
          walk_at "W"
          exact fin
        · obtain ⟨ty, hty, _, _, k⟩ := (Plain.tup py _ ey).ty (K := Z.K)
          rw [isTu_tup ey] at k
          refine w_isi hty k ?_
          walk_at "W"
          refine w_lenT (SqT.of ey) ?_
          walk_at "W"
          rw [show decide (V.int ((zs.length : Nat) : Int) = V.int 2) = false from (dec_len (k := 2)).trans (decide_eq_false nl)]
          walk_at "W"
          exact fin
        · obtain ⟨ty, hty, _, _, k⟩ := (Plain.tup py _ ey).ty (K := Z.K)
          rw [isTu_tup ey] at k
          refine w_isi hty k ?_
          walk_at "W"
          refine w_lenT (SqT.of ey) ?_
          walk_at "W"
          try refine w_ixT ey rfl ?_
          refine ⟨x, rfl, tx, ?_⟩
          cases e1 : isI x with
          | false =>
            walk_at "W"
            exact fin
          | true =>
            walk_at "W"
            try refine w_ixT ey rfl ?_
            have e2 : isI z = false := by rw [e1] at ni; simpa using ni
            refine ⟨z, rfl, tz, ?_⟩
            rw [e2]
            walk_at "W"
            exact fin
      | some x =>
        obtain ⟨py, rfl, ey⟩ := ho2
        obtain ⟨ty, hty, _, _, k⟩ := (Plain.tup py _ ey).ty (K := Z.K)
        rw [isTu_tup ey] at k
        refine w_isi hty k ?_
        walk_at "W"
        refine w_lenT (SqT.of ey) ?_
        walk_at "W"
        try refine w_ixT ey rfl ?_
        refine ⟨_, rfl, .int _, ?_⟩
        walk_at "W"
        try refine w_ixT ey rfl ?_
        refine ⟨_, rfl, .int _, ?_⟩
        walk_at "W"
        try refine w_ixT ey rfl ?_
        walk_at "W"
        have no : (decide (last < x.1) && decide (x.1 < m) && decide (1 ≤ x.2)) = false → Q (.bl false) H2 := fun h => by
          have := q H2 s2
          rwa [show restOk m (-1) l = false by rw [er, dr, restOk, h]; rfl] at this
        by_cases c1 : last < x.1
        case neg =>
          rw [decide_eq_false c1]
          walk_at "W"
          exact no (by rw [decide_eq_false c1]; simp)
        rw [decide_eq_true c1]
        walk_at "W"
        refine w_lenL (SqL.of (s2 _ _ ea)) ?_
        rw [hm]
        walk_at "W"
        by_cases c2 : x.1 < m
        case neg =>
          rw [decide_eq_false c2]
          walk_at "W"
          exact no (by rw [decide_eq_false c2]; simp)
        rw [decide_eq_true c2]
        walk_at "W"
        try refine w_ixT ey rfl ?_
        walk_at "W"
        by_cases c3 : x.2 < 1
        · rw [decide_eq_true c3]
          walk_at "W"
          exact no (by rw [decide_eq_false (show ¬ 1 ≤ x.2 by omega)]; simp)
        · rw [decide_eq_false c3]
          walk_at "W"
          try refine w_ixT ey rfl ?_
          walk_at "W"
          refine ⟨⟨_, _, rfl, ?_⟩, s2⟩
          rw [er, dr, restOk, decide_eq_true c1, decide_eq_true c2, decide_eq_true (show 1 ≤ x.2 by omega)]
          rfl
    · rintro σ' H2 ⟨⟨last, y5, rfl, er⟩, s2⟩
      walk_at "W"
      have := q H2 s2
      rwa [show restOk m (-1) l = true by rw [er, ls.1, List.drop_length]; rfl] at this
abbrev s__law_weighed : Stmt := top 45
theorem sc__law_weighed : FnScope ["rows", "weights", "x", "y", "total", "index", "weight", "way", "number"] ["rows", "weights"] (defScope s__law_weighed) := ⟨rfl, rfl, rfl, by decide +kernel, rfl, by decide +kernel, by decide +kernel⟩

def sp__law_weighed (Z : Zs) : Sp := fun vs H Q E =>
  ∃ (a p : Addr) (ws : List V) (xs : List Bn) (zs : List V) (l : List (Int × Int)), vs = [.ref a, .ref p] ∧ H a = some (.lst ws) ∧ LsAt RwAt H ws xs ∧ (∀ x ∈ xs, rw2 x) ∧ H p = some (.tup zs) ∧ LsAt PrI H zs l ∧ (∀ x ∈ l, 0 ≤ x.1 ∧ x.1 < xs.length ∧ Bw 80 x.2) ∧ l.length ≤ 3 ∧ ∀ u v H', Same H H' → H' u = some (.tup [.int (sumX xs l 0), .int (sumY xs l 0), v]) → N3At H' v (sumN xs l ⟨0, 0, 1⟩) → Q (.ref u) H'
theorem ok__law_weighed (T : Txt Z mg) (h__law_plus : Has P w Z.K mg base "_law_plus" 1 ["one", "other"] (sp__law_plus Z)) (h__law_scaled : Has P w Z.K mg base "_law_scaled" 1 ["part", "one"] (sp__law_scaled Z)) (h__law_vector : Has P w Z.K mg base "_law_vector" 1 ["way"] (sp__law_vector Z)) (D : AtF Z.K mg "_law_weighed" "_law_weighed" s__law_weighed ["rows", "weights"]) : Has P w Z.K mg base "_law_weighed" 2 ["rows", "weights"] (sp__law_weighed Z) := by
  refine D.ok sc__law_weighed (fun vs H Q E h => ?_) (fun cdv A outer s H vs Q E hr h => ?_)
  · obtain ⟨a, p, ws, xs, zs, l, rfl, _⟩ := h
    rfl
  · refine ⟨_, (pss_cons (ps_set (i := 2) sc__law_weighed.nd rfl (Or.inl rfl) pe_int)
      (pss_cons (ps_set (i := 3) sc__law_weighed.nd rfl (Or.inl rfl) pe_int)
      (pss_cons (ps_set (i := 4) sc__law_weighed.nd rfl (Or.inl rfl) (pe_tup (pa_cons pe_int (pa_cons pe_int (pa_cons pe_int pa_nil)))))
      (pss_cons (ps_for (passes_of rfl) rfl (pi_tup (pv 1)) (pg_tup rfl (pgs_cons (pg_name (i := 5) sc__law_weighed.nd rfl (Or.inl rfl)) (pgs_cons (pg_name (i := 6) sc__law_weighed.nd rfl (Or.inl rfl)) pgs_nil))) (pss_cons (ps_asg (pe_ix ix_seq (pv 0) (pv 5) (fun _ _ => rfl)) (pg_tup rfl (pgs_cons (pg_name (i := 7) sc__law_weighed.nd rfl (Or.inl rfl)) (pgs_cons (pg_name (i := 8) sc__law_weighed.nd rfl (Or.inl rfl)) pgs_nil))))
      (pss_cons (ps_set (i := 2) sc__law_weighed.nd rfl (Or.inl rfl) (pe_op op_add (pv 2) (pe_op op_mulS (pv 6) (pe_ix ix_seq (pe_h (E := ED E) h__law_vector hr (paW (takes_of rfl rfl rfl rfl)) (pa_cons (pv 7) pa_nil)) pe_int (fun _ _ => rfl)))))
      (pss_cons (ps_set (i := 3) sc__law_weighed.nd rfl (Or.inl rfl) (pe_op op_add (pv 3) (pe_op op_mulS (pv 6) (pe_ix ix_seq (pe_h (E := ED E) h__law_vector hr (paW (takes_of rfl rfl rfl rfl)) (pa_cons (pv 7) pa_nil)) pe_int (fun _ _ => rfl)))))
      (pss_one (ps_set (i := 4) sc__law_weighed.nd rfl (Or.inl rfl) (pe_h (E := ED E) h__law_plus hr (paW (takes_of rfl rfl rfl rfl)) (pa_cons (pv 4) (pa_cons (pe_h (E := ED E) h__law_scaled hr (paW (takes_of rfl rfl rfl rfl)) (pa_cons (pv 6) (pa_cons (pv 8) pa_nil))) pa_nil)))))))))
      (pss_one (ps_ret (pe_tup (pa_cons (pv 2) (pa_cons (pv 3) (pa_cons (pv 4) pa_nil)))))))))), ?_⟩
    try simp only [cxOf]
    obtain ⟨a, p, ws, xs, zs, l, rfl, ea, hb, okx, ep, ls, hl, l3, q⟩ := h
    walk_at "W"
    refine k_tup rfl fun t0 H1 ht0 s1 e1 => ?_
    walk_at "W"
    refine k_forT (xs := zs) (fun i σ' H' => (∃ (X Y : Int) (tv : V) (acc : Nu) (y5 y6 y7 y8 : Option V), σ' = [some (.ref a), some (.ref p), some (.int X), some (.int Y), some tv, y5, y6, y7, y8] ∧ sumX xs l 0 = sumX xs (l.drop i) X ∧ sumY xs l 0 = sumY xs (l.drop i) Y ∧ sumN xs l ⟨0, 0, 1⟩ = sumN xs (l.drop i) acc ∧ N3At H' tv acc ∧ Nu.ok (1 + 300 * i) (1 + 92 * i) acc) ∧ Same H1 H') (s1 _ _ ep) ⟨⟨_, _, _, ⟨0, 0, 1⟩, _, _, _, _, rfl, rfl, rfl, rfl, ⟨t0, rfl, e1⟩, by decide, by unfold Bw; decide, by unfold Bw; decide, by unfold Bw; decide⟩, Same.refl _⟩ (fun i σ' H' h => h.2 _ _ (s1 _ _ ep)) ?_ ?_
    · rintro i y σ' H2 hy ⟨⟨X, Y, tv, acc, y5, y6, y7, y8, rfl, eX, eY, eN, hrp, oa⟩, s2⟩
      have S2 := s1.trans s2
      obtain ⟨x, ex, py, rfl, ey⟩ := ls.get hy
      obtain ⟨x0, x1, xw⟩ := hl x (List.mem_of_getElem? ex)
      have il : i < 3 := by have := (List.getElem?_eq_some_iff.mp ex).1; omega
      have dr : l.drop i = x :: l.drop (i + 1) := by
        obtain ⟨h1, h2⟩ := List.getElem?_eq_some_iff.mp ex
        rw [List.drop_eq_getElem_cons h1, h2]
      have ix : x.1.toNat < xs.length := by omega
      have eg : xs.getD x.1.toNat ⟨0, 0, 0, 1⟩ = xs[x.1.toNat] := by rw [List.getD_eq_getElem?_getD, List.getElem?_eq_getElem ix]; rfl
      have exg : xs[x.1.toNat]? = some xs[x.1.toNat] := List.getElem?_eq_getElem ix
      obtain ⟨bv, ebv, hbv⟩ := hb.get' exg
      have okb := okx _ (List.getElem_mem ix)
      rw [dr, sumX, eg] at eX
      rw [dr, sumY, eg] at eY
      rw [dr, sumN, eg] at eN
      generalize xs[x.1.toNat] = bx at *
      obtain ⟨pb, yb, rfl, epb, nyb⟩ := hbv.kps (Kps.same S2)
      obtain ⟨v1, v2⟩ := v_bw okb.1
      have ei : atI ws x.1 = some (.ref pb) := by
        have := atI_nat ebv
        rwa [Int.toNat_of_nonneg x0] at this
      refine k_tupl2 (S2 _ _ ey) rfl rfl ?_
      walk_at "W"
      refine w_ixL (S2 _ _ ea) ei ?_
      refine k_tupl2 epb rfl rfl ?_
      walk_at "W"
      refine ⟨bx.d, rfl, okb.1, fun u3 H3 s3 e3 => ?_⟩
      walk_at "W"
      refine w_I (bwm xw v1 (by decide)) ?_
      walk_at "W"
      refine ⟨bx.d, rfl, okb.1, fun u4 H4 s4 e4 => ?_⟩
      walk_at "W"
      refine w_I (bwm xw v2 (by decide)) ?_
      walk_at "W"
      refine ⟨x.2, _, nuB bx, rfl, (nyb.same s3).same s4, okb.2.mono (by decide) (by decide), xw.mono (by decide), fun u5 H5 s5 h5 => ?_⟩
      walk_at "W"
      refine ⟨_, _, acc, _, rfl, ((hrp.same s3).same s4).same s5, h5, oa.mono (by omega) (by omega), (scN_okG okb.2 xw).mono (by decide) (by decide), fun u6 H6 s6 h6 => ?_⟩
      walk_at "W"
      exact ⟨⟨_, _, _, _, _, _, _, _, rfl, eX, eY, eN, h6, (plN_ok oa (scN_okG okb.2 xw)).mono (by omega) (by omega)⟩, s2.trans (s3.trans (s4.trans (s5.trans s6)))⟩
    · rintro σ' H2 ⟨⟨X, Y, tv, acc, y5, y6, y7, y8, rfl, eX, eY, eN, hrp, oa⟩, s2⟩
      rw [ls.1, List.drop_length] at eX eY eN
      walk_at "W"
      refine k_tup rfl fun u H3 hu s3 e3 => ?_
      exact q u tv H3 (s1.trans (s2.trans s3)) (by rw [e3, eX, eY]; rfl) (by rw [eN]; exact hrp.same s3)
abbrev s__law_are_bars : Stmt := top 46
theorem sc__law_are_bars : FnScope ["rows", "thing", "x", "y", "total"] ["rows", "thing"] (defScope s__law_are_bars) := ⟨rfl, rfl, rfl, by decide +kernel, rfl, by decide +kernel, by decide +kernel⟩

def sp__law_are_bars (Z : Zs) : Sp := fun vs H Q E =>
  ∃ (a : Addr) (ws : List V) (xs : List Bn) (v : V) (t : Option (List (Option (Int × Int)))), vs = [.ref a, v] ∧ H a = some (.lst ws) ∧ LsAt RwAt H ws xs ∧ (∀ x ∈ xs, rw2 x) ∧ TAt Z H v t ∧ wtT t ∧ ∀ H', Same H H' → Q (.bl (barsT xs t)) H'
theorem ok__law_are_bars (T : Txt Z mg) (h__law_sign : Has P w Z.K mg base "_law_sign" 1 ["one"] (sp__law_sign Z)) (h__law_weighed : Has P w Z.K mg base "_law_weighed" 2 ["rows", "weights"] (sp__law_weighed Z)) (h__law_are_weights : Has P w Z.K mg base "_law_are_weights" 2 ["rows", "thing", "least", "most"] (sp__law_are_weights Z)) (D : AtF Z.K mg "_law_are_bars" "_law_are_bars" s__law_are_bars ["rows", "thing"]) : Has P w Z.K mg base "_law_are_bars" 3 ["rows", "thing"] (sp__law_are_bars Z) := by
  refine D.ok sc__law_are_bars (fun vs H Q E h => ?_) (fun cdv A outer s H vs Q E hr h => ?_)
  · obtain ⟨a, ws, xs, v, t, rfl, _⟩ := h
    rfl
  · refine ⟨_, (pss_cons (ps_if (pt_not (pt_val (pe_h (E := ED E) h__law_are_weights hr (paW (takes_of rfl rfl rfl rfl)) (pa_cons (pv 0) (pa_cons (pv 1) (pa_cons pe_int (pa_cons pe_int pa_nil))))))) (pss_one (ps_ret pe_bl)) pss_nil)
      (pss_cons (ps_asg (pe_h (E := ED E) h__law_weighed hr (paW (takes_of rfl rfl rfl rfl)) (pa_cons (pv 0) (pa_cons (pv 1) pa_nil))) (pg_tup rfl (pgs_cons (pg_name (i := 2) sc__law_are_bars.nd rfl (Or.inl rfl)) (pgs_cons (pg_name (i := 3) sc__law_are_bars.nd rfl (Or.inl rfl)) (pgs_cons (pg_name (i := 4) sc__law_are_bars.nd rfl (Or.inl rfl)) pgs_nil)))))
      (pss_one (ps_ret (pe_and (pe_cmpR op_eq (pv 2) pe_int (nomark _)) (pe_and (pe_cmpR op_eq (pv 3) pe_int (nomark _)) (pe_one (pe_cmpR op_le (pe_h (E := ED E) h__law_sign hr (paW (takes_of rfl rfl rfl rfl)) (pa_cons (pv 4) pa_nil)) pe_int (nomark _))))))))), ?_⟩
    try simp only [cxOf]
    obtain ⟨a, ws, xs, v, t, rfl, ea, lr, okx, hT, hw, q⟩ := h
    have lx : ws.length = xs.length := lr.1
    walk_at "W"
    refine ⟨a, ws, v, t, _, _, rfl, ea, hT, fun H2 S2 => ?_⟩
    have bw : barsT xs t = (wT (ws.length : Nat) 2 3 t && barsT xs t) := by
      cases t with
      | none => rfl
      | some l =>
        rw [lx]
        unfold wT barsT
        dsimp only
        cases restOk ((xs.length : Nat) : Int) (-1) l <;> cases decide (2 ≤ (l.length : Int)) <;> cases decide ((l.length : Int) ≤ 3) <;> rfl
    cases hr' : wT (ws.length : Nat) 2 3 t with
    | false =>
      walk_at "W"
      have := q H2 S2
      rw [bw, hr'] at this
      exact this
    | true =>
    cases t with
    | none => cases hr'
    | some l =>
    have hr2 := hr'
    unfold wT at hr2
    simp only [Bool.and_eq_true, decide_eq_true_iff] at hr2
    obtain ⟨⟨c1, c2⟩, hro⟩ := hr2
    rw [lx] at hro
    obtain ⟨el, hpr⟩ := restOk_spec hro
    obtain ⟨p, zs, rfl, ep, ls⟩ := hT.kl (KL.same S2)
    have ll : zs.length = l.length := ls.1
    walk_at "W"
    have pl : (prs l).length = l.length := by
      have := congrArg List.length el
      rw [List.length_map] at this
      exact this.symm
    have lsP : LsAt PrI H2 zs (prs l) := ⟨by rw [pl]; exact ll, fun i y x h1 h2 => by
      have e : l[i]? = some (some x) := by rw [el, List.getElem?_map, h2]; rfl
      exact ls.2 i y _ h1 e⟩
    have hl : ∀ x ∈ prs l, 0 ≤ x.1 ∧ x.1 < xs.length ∧ Bw 80 x.2 := fun x hx => by
      obtain ⟨g1, g2, g3⟩ := hpr x hx
      refine ⟨by omega, g2, hw l rfl x ?_⟩
      obtain ⟨y, hy, e⟩ := List.mem_filterMap.mp hx
      cases e
      exact hy
    refine ⟨a, p, ws, xs, zs, prs l, rfl, S2 _ _ ea, lr.imp fun v x r => r.kps (Kps.same S2), okx, ep, lsP, hl, by omega, fun u tv H3 s3 e3 hn => ?_⟩
    refine k_tup3w e3 rfl rfl ?_
    have res : barsT xs (some l) = (decide (sumX xs (prs l) 0 = 0) && (decide (sumY xs (prs l) 0 = 0) && decide (sg2 (sumN xs (prs l) ⟨0, 0, 1⟩).t (sumN xs (prs l) ⟨0, 0, 1⟩).r ≤ 0))) := by
      unfold barsT
      simp only [hro, decide_eq_true c1, decide_eq_true c2, Bool.true_and]
    have q3 := q H3 (S2.trans s3)
    rw [res] at q3
    have on := sumN_ok okx (l := prs l) (acc := ⟨0, 0, 1⟩) (a := 1) (b := 1) hl (by decide) ⟨by decide, by unfold Bw; decide, by unfold Bw; decide, by unfold Bw; decide⟩
    walk_at "W"
    by_cases d1 : sumX xs (prs l) 0 = 0
    case neg =>
      rw [decide_eq_false d1] at q3
      rw [decide_eq_false (fun z => d1 (by injection z))]
      walk_at "W"
      exact q3
    rw [decide_eq_true d1] at q3
    rw [decide_eq_true (congrArg V.int d1)]
    walk_at "W"
    by_cases d2 : sumY xs (prs l) 0 = 0
    case neg =>
      rw [decide_eq_false d2] at q3
      rw [decide_eq_false (fun z => d2 (by injection z))]
      walk_at "W"
      exact q3
    rw [decide_eq_true d2] at q3
    rw [decide_eq_true (congrArg V.int d2)]
    walk_at "W"
    refine ⟨_, _, rfl, hn, on.2.1.mono (by omega), on.2.2.1.mono (by omega), ?_⟩
    walk_at "W"
    exact q3
abbrev s__law_over : Stmt := top 42
theorem sc__law_over : FnScope ["number", "part"] ["number", "part"] (defScope s__law_over) := ⟨rfl, rfl, rfl, by decide +kernel, rfl, by decide +kernel, by decide +kernel⟩

def sp__law_over (Z : Zs) : Sp := fun vs H Q E =>
  ∃ v n k, vs = [v, .int k] ∧ N3At H v n ∧ Nu.ok 900 900 n ∧ Bw 100 k ∧ ∀ u H', Same H H' → N3At H' u ⟨n.t, n.r, k * n.b⟩ → Q u H'
theorem ok__law_over (T : Txt Z mg)  (D : AtF Z.K mg "_law_over" "_law_over" s__law_over ["number", "part"]) : Has P w Z.K mg base "_law_over" 1 ["number", "part"] (sp__law_over Z) := by
  refine D.ok sc__law_over (fun vs H Q E h => ?_) (fun cdv A outer s H vs Q E hr h => ?_)
  · obtain ⟨v, n, k, rfl, _⟩ := h
    rfl
  · refine ⟨_, (pss_one (ps_ret (pe_tup (pa_cons (pe_ix ix_seq (pv 0) pe_int (fun _ _ => rfl)) (pa_cons (pe_ix ix_seq (pv 0) pe_int (fun _ _ => rfl)) (pa_cons (pe_op op_mulS (pv 1) (pe_ix ix_seq (pv 0) pe_int (fun _ _ => rfl))) pa_nil)))))), ?_⟩
    try simp only [cxOf]
    obtain ⟨v, n, k, rfl, ⟨p, rfl, ep⟩, on, wk, q⟩ := h
    walk_at "W"
    refine w_I (bwm wk on.2.2.2 (by decide)) ?_
    walk_at "W"
    exact k_tup rfl fun u H1 hu s1 e1 => q _ H1 s1 ⟨u, rfl, e1⟩
abbrev s__law_closing : Stmt := top 43
theorem sc__law_closing : FnScope ["draws", "rows", "least", "way", "gap", "one", "other", "total"] ["draws", "rows"] (defScope s__law_closing) := ⟨rfl, rfl, rfl, by decide +kernel, rfl, by decide +kernel, by decide +kernel⟩

def sp__law_closing (Z : Zs) : Sp := fun vs H Q E =>
  ∃ (p c a : Addr) (ws : List V) (xs : List Bn), vs = [.ref p, .ref a] ∧ St4 H p c ∧ a ≠ p ∧ H a = some (.lst ws) ∧ LsAt RwAt H ws xs ∧ xs.length ≤ 10 ∧ (∀ x ∈ xs, x.d < 8 ∧ Nu.ok 106 31 (nuB x)) ∧ ∀ u ws' xs' H', SameX p H H' → St4 H' p c → u ≠ p → H' u = some (.lst ws') → LsAt RwAt H' ws' xs' → (∀ x ∈ xs', rw2 x) → xs'.length ≤ 11 → Q (.ref u) H'
theorem ok__law_closing (T : Txt Z mg) (h__law_plus : Has P w Z.K mg base "_law_plus" 1 ["one", "other"] (sp__law_plus Z)) (h__law_over : Has P w Z.K mg base "_law_over" 1 ["number", "part"] (sp__law_over Z)) (h__law_scaled : Has P w Z.K mg base "_law_scaled" 1 ["part", "one"] (sp__law_scaled Z)) (h__law_draw : Has P w Z.K mg base "_law_draw" 1 ["draws", "many"] (sp__law_draw Z)) (h__law_least : Has P w Z.K mg base "_law_least" 3 ["rows"] (sp__law_least Z)) (D : AtF Z.K mg "_law_closing" "_law_closing" s__law_closing ["draws", "rows"]) : Has P w Z.K mg base "_law_closing" 4 ["draws", "rows"] (sp__law_closing Z) := by
  refine D.ok sc__law_closing (fun vs H Q E h => ?_) (fun cdv A outer s H vs Q E hr h => ?_)
  · obtain ⟨p, c, a, ws, xs, rfl, _⟩ := h
    rfl
  · refine ⟨_, (pss_cons (ps_set (i := 2) sc__law_closing.nd rfl (Or.inl rfl) (pe_h (E := ED E) h__law_least hr (paW (takes_of rfl rfl rfl rfl)) (pa_cons (pv 1) pa_nil)))
      (pss_cons (ps_set (i := 3) sc__law_closing.nd rfl (Or.inl rfl) (pe_h (E := ED E) h__law_draw hr (paW (takes_of rfl rfl rfl rfl)) (pa_cons (pv 0) (pa_cons pe_int pa_nil))))
      (pss_cons (ps_set (i := 4) sc__law_closing.nd rfl (Or.inl rfl) (pe_tup (pa_cons (pe_op op_sub (pe_h (E := ED E) h__law_draw hr (paW (takes_of rfl rfl rfl rfl)) (pa_cons (pv 0) (pa_cons pe_int pa_nil))) pe_int) (pa_cons (pe_h (E := ED E) h__law_draw hr (paW (takes_of rfl rfl rfl rfl)) (pa_cons (pv 0) (pa_cons pe_int pa_nil))) (pa_cons (pe_op op_add pe_int (pe_h (E := ED E) h__law_draw hr (paW (takes_of rfl rfl rfl rfl)) (pa_cons (pv 0) (pa_cons (pe_op op_pow pe_int pe_int) pa_nil)))) pa_nil)))))
      (C8.pss_cut (ps_if (pt_cmpR op_eq (pe_h (E := ED E) h__law_draw hr (paW (takes_of rfl rfl rfl rfl)) (pa_cons (pv 0) (pa_cons pe_int pa_nil))) pe_int (nomark _)) (pss_one (ps_set (i := 4) sc__law_closing.nd rfl (Or.inl rfl) (pe_tup (pa_cons pe_int (pa_cons pe_int (pa_cons pe_int pa_nil)))))) pss_nil)
      (pss_cons (ps_if (pt_cmpR op_gt (pe_h (E := ED E) h__law_draw hr (paW (takes_of rfl rfl rfl rfl)) (pa_cons (pv 0) (pa_cons pe_int pa_nil))) pe_int (nomark _)) (pss_cons (ps_if (pt_cmpR op_isN (pe_ix ix_seq (pv 2) (pe_op op_mod (pe_op op_add (pv 3) pe_int) pe_int) (fun _ _ => rfl)) pe_non (nomark _)) (pss_one (ps_ret (pv 1))) pss_nil)
      (pss_one (ps_ret (pe_op op_cat (pv 1) (pe_lst (pa_cons (pe_tup (pa_cons (pv 3) (pa_cons (pe_h (E := ED E) h__law_plus hr (paW (takes_of rfl rfl rfl rfl)) (pa_cons (pv 4) (pa_cons (pe_h (E := ED E) h__law_scaled hr (paW (takes_of rfl rfl rfl rfl)) (pa_cons (pe_un un_neg pe_int) (pa_cons (pe_ix ix_seq (pv 2) (pe_op op_mod (pe_op op_add (pv 3) pe_int) pe_int) (fun _ _ => rfl)) pa_nil))) pa_nil))) pa_nil))) pa_nil)))))) pss_nil)
      (pss_cons (ps_set (i := 5) sc__law_closing.nd rfl (Or.inl rfl) (pe_ix ix_seq (pv 2) (pe_op op_mod (pe_op op_add (pv 3) pe_int) pe_int) (fun _ _ => rfl)))
      (pss_cons (ps_set (i := 6) sc__law_closing.nd rfl (Or.inl rfl) (pe_ix ix_seq (pv 2) (pe_op op_mod (pe_op op_add (pv 3) pe_int) pe_int) (fun _ _ => rfl)))
      (pss_cons (ps_if (PW.pt (pw_or (pt_cmpR op_isN (pv 5) pe_non (nomark _)) (pw_or1 (pt_cmpR op_isN (pv 6) pe_non (nomark _))))) (pss_one (ps_ret (pv 1))) pss_nil)
      (pss_cons (ps_set (i := 7) sc__law_closing.nd rfl (Or.inl rfl) (pe_h (E := ED E) h__law_over hr (paW (takes_of rfl rfl rfl rfl)) (pa_cons (pe_h (E := ED E) h__law_scaled hr (paW (takes_of rfl rfl rfl rfl)) (pa_cons (pe_un un_neg pe_int) (pa_cons (pe_h (E := ED E) h__law_plus hr (paW (takes_of rfl rfl rfl rfl)) (pa_cons (pv 5) (pa_cons (pv 6) pa_nil))) pa_nil))) (pa_cons (pe_op op_sub pe_int (pe_op op_mod (pv 3) pe_int)) pa_nil))))
      (pss_one (ps_ret (pe_op op_cat (pv 1) (pe_lst (pa_cons (pe_tup (pa_cons (pv 3) (pa_cons (pe_h (E := ED E) h__law_plus hr (paW (takes_of rfl rfl rfl rfl)) (pa_cons (pv 4) (pa_cons (pv 7) pa_nil))) pa_nil))) pa_nil)))))))))))))), ?_⟩
    try simp only [cxOf]
    obtain ⟨p, c, a, ws, xs, rfl, st, ap, ea, lr, l10, ok, q⟩ := h
    have ok2 : ∀ x ∈ xs, rw2 x := fun x hx => ⟨(ok x hx).1, (ok x hx).2.mono (by decide) (by decide)⟩
    walk_at "W"
    refine ⟨a, ws, xs, rfl, ea, lr, ok2, by omega, fun u zs H1 hu s1 eu bz => ?_⟩
    have st1 := st.same s1
    have nu := st.new hu
    walk_at "W"
    refine ⟨p, c, _, rfl, st1, by decide, by unfold Bw; decide, fun wy H2 w0 w1 x2 st2 => ?_⟩
    obtain ⟨d, rfl⟩ := Int.eq_ofNat_of_zero_le w0
    have d8 : d < 8 := by omega
    walk_at "W"
    refine ⟨p, c, _, rfl, st2, by decide, by unfold Bw; decide, fun n1 H3 n10 n11 x3 st3 => ?_⟩
    walk_at "W"
    refine ⟨p, c, _, rfl, st3, by decide, by unfold Bw; decide, fun n2 H4 n20 n21 x4 st4 => ?_⟩
    walk_at "W"
    refine ⟨p, c, _, rfl, st4, by decide, by unfold Bw; decide, fun n3 H5 n30 n31 x5 st5 => ?_⟩
    walk_at "W"
    refine k_tup rfl fun gp H6 hgp s6 e6 => ?_
    have n3x : n3 < 10000 := n31
    have og : Nu.ok 4 14 ⟨n1 - 3, n2, 1 + n3⟩ := ⟨by show (0 : Int) < 1 + n3; omega, by show Bw 4 (n1 - 3); unfold Bw; omega, by show Bw 4 n2; unfold Bw; omega, by show Bw 14 (1 + n3); unfold Bw; omega⟩
    have X6 : SameX p H1 H6 := x2.trans (x3.trans (x4.trans (x5.trans (Same.x s6))))
    have st6 := st5.same s6
    walk_at "W"
    refine w_cut (fun σ' H' => ∃ (gv : V) (g : Nu), σ' = [some (.ref p), some (.ref a), some (.ref u), some (.int (d : Nat)), some gv, none, none, none] ∧ SameX p H1 H' ∧ St4 H' p c ∧ N3At H' gv g ∧ Nu.ok 4 14 g) ?_ ?_
    · walk_at "W"
      refine ⟨p, c, _, rfl, st6, by decide, by unfold Bw; decide, fun k H7 k0 k1 x7 st7 => ?_⟩
      walk_at "W"
      by_cases hk : k = 0
      · rw [decide_eq_true (by rw [hk])]
        walk_at "W"
        refine k_tup rfl fun gp2 H8 hgp2 s8 e8 => ?_
        walk_at "W"
        exact ⟨.ref gp2, ⟨0, 0, 1⟩, rfl, X6.trans (x7.trans (Same.x s8)), st7.same s8, ⟨gp2, rfl, e8⟩, by decide, by unfold Bw; decide, by unfold Bw; decide, by unfold Bw; decide⟩
      · rw [decide_eq_false (fun z => hk (by injection z))]
        walk_at "W"
        exact ⟨.ref gp, _, rfl, X6.trans x7, st7, N3At.kps (n := ⟨n1 - 3, n2, 1 + n3⟩) ⟨gp, rfl, e6⟩ (st6.kps x7), og⟩
    rintro σ7 H7 ⟨gv, g, rfl, X7, st7, hg, og⟩
    walk_at "W"
    refine ⟨p, c, _, rfl, st7, by decide, by unfold Bw; decide, fun k H8 k0 k1 x8 st8 => ?_⟩
    have X8 := X7.trans x8
    have hg8 := hg.kps (st7.kps x8)
    have K8 := st1.kps X8
    have eu3 := X8 _ _ nu.1 eu
    have bz3 := bz.imp fun v o h => NuO.kps h K8
    have ea3 := X8 _ _ ap (s1 _ _ ea)
    have lr3 := (lr.imp fun v x r => r.kps (Kps.same s1)).imp fun v x r => r.kps K8
    have X3 : SameX p H H8 := (Same.x s1).trans X8
    have l8 := lsF_len (xs := xs)
    have at8 : ∀ {k : Nat}, k < 8 → ∃ zv, zs[k]? = some zv ∧ NuO H8 zv ((lsF xs).getD k none) := fun {k} hk => by
      have ed : (lsF xs)[k]? = some ((lsF xs).getD k none) := by rw [List.getD_eq_getElem?_getD, List.getElem?_eq_getElem (by omega)]; rfl
      obtain ⟨zv, e, h⟩ := bz3.get' ed
      exact ⟨zv, e, h⟩
    have sz : ∀ {k : Nat} {m : Nu}, k < 8 → (lsF xs).getD k none = some m → Nu.ok 106 31 m := fun {k m} hk e => by
      rcases lsF_spec FF ok2 hk with ⟨e', -⟩ | ⟨y, hy, -, e', -⟩
      · rw [e] at e'; cases e'
      · rw [e] at e'
        cases e'
        exact (ok y hy).2
    have lt : ∀ k, (d + k) % 8 < 8 := fun k => Nat.mod_lt _ (by decide)
    have fin : ∀ {H4 H5 : Hp} {t2 l l2 : Addr} {nv' : V} {n : Nu}, Same H8 H4 → N3At H4 nv' n → Nu.ok 200 90 n → H4 t2 = some (.tup [.int (d : Nat), nv']) → H4 l = none → Same H4 H5 → H5 l2 = some (.lst [.ref t2]) → H5 a = some (.lst ws) → rCat (.ref a) (.ref l2) H5 Q := fun {H4 H5 t2 l l2 nv' n} s4 hn on et hl s5 e2 ea5 => by
      refine ⟨a, l2, ws, [.ref t2], rfl, rfl, ea5, e2, Nat.le_of_lt (few_lt (by rw [lr.1]; show xs.length + 1 ≤ _; omega)), fun l' hl' => ?_⟩
      have s6 : Same H5 (upd H5 l' (.lst (ws ++ [.ref t2]))) := Same.new hl'
      have S6 := s4.trans (s5.trans s6)
      refine q l' _ (xs ++ [⟨d, n.t, n.r, n.b⟩]) _ (X3.trans (Same.x S6)) (st8.same S6) (((st8.same s4).same s5).new hl').1 upd_same (LsAt.add (lr3.imp fun v x r => r.kps (Kps.same S6)) (show RwAt _ (.ref t2) (⟨d, n.t, n.r, n.b⟩ : Bn) from ⟨t2, nv', rfl, s6 _ _ (s5 _ _ et), (hn.same s5).same s6⟩)) (fun x hx => ?_) (by rw [List.length_append]; show xs.length + 1 ≤ 11; omega)
      rcases List.mem_append.mp hx with h | h
      · exact ok2 x h
      · rw [List.mem_singleton.mp h]
        exact ⟨d8, on⟩
    walk_at "W"
    by_cases hk : k > 0
    · rw [decide_eq_true hk]
      walk_at "W"
      obtain ⟨zv, ezv, hzv⟩ := at8 (lt 4)
      have ez4 : atI zs (((d : Int) + 4) % 8) = some zv := by rw [show ((d : Int) + 4) % 8 = (((d + 4) % 8 : Nat) : Int) by omega]; exact atI_nat ezv
      refine w_ixL eu3 ez4 ?_
      walk_at "W"
      cases e4 : (lsF xs).getD ((d + 4) % 8) none with
      | none =>
        rw [e4] at hzv
        cases hzv
        refine ⟨rfl, ?_⟩
        walk_at "W"
        exact q a ws xs H8 X3 st8 ap ea3 lr3 ok2 (by omega)
      | some m =>
        rw [e4] at hzv
        have om := sz (lt 4) e4
        obtain ⟨pm, rfl, em⟩ := hzv
        refine ⟨rfl, ?_⟩
        walk_at "W"
        refine w_ixL eu3 ez4 ?_
        refine ⟨_, _, m, rfl, ⟨pm, rfl, em⟩, om.mono (by decide) (by decide), by unfold Bw; decide, fun u4 H4 s4 h4 => ?_⟩
        have os := scN_ok (c := -1) om (by unfold Bw; decide)
        walk_at "W"
        refine ⟨_, _, g, _, rfl, hg8.same s4, h4, og.mono (by decide) (by decide), os.mono (by decide) (by decide), fun u5 H5 s5 h5 => ?_⟩
        walk_at "W"
        refine k_tup rfl fun t6 H6 ht6 s6 e6 => ?_
        walk_at "W"
        refine k_lst rfl fun l7 H7 hl7 s7 e7 => ?_
        exact fin (s4.trans (s5.trans s6)) (h5.same s6) ((plN_ok og os).mono (by decide) (by decide)) e6 hl7 s7 e7 (s7 _ _ (s6 _ _ (s5 _ _ (s4 _ _ ea3))))
    rw [decide_eq_false hk]
    obtain ⟨z3, ez3, hz3⟩ := at8 (lt 3)
    obtain ⟨z5, ez5, hz5⟩ := at8 (lt 5)
    have f3 : atI zs (((d : Int) + 3) % 8) = some z3 := by rw [show ((d : Int) + 3) % 8 = (((d + 3) % 8 : Nat) : Int) by omega]; exact atI_nat ez3
    have f5 : atI zs (((d : Int) + 5) % 8) = some z5 := by rw [show ((d : Int) + 5) % 8 = (((d + 5) % 8 : Nat) : Int) by omega]; exact atI_nat ez5
    walk_at "W"
    refine w_ixL eu3 f3 ?_
    walk_at "W"
    refine w_ixL eu3 f5 ?_
    walk_at "W"
    cases g3 : (lsF xs).getD ((d + 3) % 8) none with
    | none =>
      rw [g3] at hz3
      cases hz3
      refine ⟨rfl, ?_⟩
      walk_at "W"
      exact q a ws xs H8 X3 st8 ap ea3 lr3 ok2 (by omega)
    | some m =>
    rw [g3] at hz3
    have om := sz (lt 3) g3
    obtain ⟨pm, rfl, em⟩ := hz3
    refine ⟨rfl, ?_⟩
    walk_at "W"
    cases g5 : (lsF xs).getD ((d + 5) % 8) none with
    | none =>
      rw [g5] at hz5
      cases hz5
      refine ⟨rfl, ?_⟩
      walk_at "W"
      exact q a ws xs H8 X3 st8 ap ea3 lr3 ok2 (by omega)
    | some n =>
    rw [g5] at hz5
    have on := sz (lt 5) g5
    obtain ⟨pn, rfl, en⟩ := hz5
    refine ⟨rfl, ?_⟩
    walk_at "W"
    refine ⟨_, _, m, n, rfl, ⟨pm, rfl, em⟩, ⟨pn, rfl, en⟩, om.mono (by decide) (by decide), on.mono (by decide) (by decide), fun u4 H4 s4 h4 => ?_⟩
    have op := plN_ok om on
    walk_at "W"
    refine ⟨_, _, _, rfl, h4, op.mono (by decide) (by decide), by unfold Bw; decide, fun u5 H5 s5 h5 => ?_⟩
    have os := scN_ok (c := -1) op (by unfold Bw; decide)
    walk_at "W"
    have km : (2 : Int) - (d : Int) % 2 = 1 ∨ (2 : Int) - (d : Int) % 2 = 2 := by omega
    have kw : Bw 2 ((2 : Int) - (d : Int) % 2) := by rcases km with e | e <;> (rw [e]; unfold Bw; decide)
    refine ⟨_, _, _, rfl, h5, os.mono (by decide) (by decide), kw.mono (by decide), fun u6 H6 s6 h6 => ?_⟩
    have oo : Nu.ok 139 64 ⟨(scN (-1) (plN m n)).t, (scN (-1) (plN m n)).r, ((2 : Int) - (d : Int) % 2) * (scN (-1) (plN m n)).b⟩ := ⟨Int.mul_pos (by omega) os.1, os.2.1, os.2.2.1, (kw.mul os.2.2.2).mono (by decide)⟩
    walk_at "W"
    refine ⟨_, _, g, _, rfl, ((hg8.same s4).same s5).same s6, h6, og.mono (by decide) (by decide), oo.mono (by decide) (by decide), fun u7 H7 s7 h7 => ?_⟩
    walk_at "W"
    refine k_tup rfl fun t8 H9 ht8 s8 e8 => ?_
    walk_at "W"
    refine k_lst rfl fun l9 HA hl9 s9 e9 => ?_
    exact fin (s4.trans (s5.trans (s6.trans (s7.trans s8)))) (h7.same s8) ((plN_ok og oo).mono (by decide) (by decide)) e8 hl9 s9 e9 (s9 _ _ (s8 _ _ (s7 _ _ (s6 _ _ (s5 _ _ (s4 _ _ ea3))))))
abbrev s__law_indexes : Stmt := top 49
theorem sc__law_indexes : FnScope ["rows", "found", "index", "way", "number"] ["rows"] (defScope s__law_indexes) := ⟨rfl, rfl, rfl, by decide +kernel, rfl, by decide +kernel, by decide +kernel⟩

def sp__law_indexes (Z : Zs) : Sp := fun vs H Q E =>
  ∃ (a : Addr) (ws : List V) (xs : List Bn), vs = [.ref a] ∧ H a = some (.lst ws) ∧ LsAt RwAt H ws xs ∧ (∀ x ∈ xs, rw2 x) ∧ xs.length ≤ 400 ∧ ∀ u zs H', H u = none → Same H H' → H' u = some (.lst zs) → zs.length = 8 → (∀ z ∈ zs, z = .non ∨ ∃ j : Nat, z = .int j ∧ j < xs.length) → Q (.ref u) H'
theorem ok__law_indexes (T : Txt Z mg) (h__law_compare : Has P w Z.K mg base "_law_compare" 2 ["one", "other"] (sp__law_compare Z)) (D : AtF Z.K mg "_law_indexes" "_law_indexes" s__law_indexes ["rows"]) : Has P w Z.K mg base "_law_indexes" 3 ["rows"] (sp__law_indexes Z) := by
  refine D.ok sc__law_indexes (fun vs H Q E h => ?_) (fun cdv A outer s H vs Q E hr h => ?_)
  · obtain ⟨a, ws, xs, rfl, _⟩ := h
    rfl
  · refine ⟨_, (pss_cons (ps_set (i := 1) sc__law_indexes.nd rfl (Or.inl rfl) (pe_op op_rep (pe_lst (pa_cons pe_non pa_nil)) pe_int))
      (pss_cons (ps_for (passes_of rfl) rfl (pi_range1 rfl T.n_range (pa_cons (pe_callB cn_len rfl T.n_len (by decide +kernel) (pa_cons (pv 0) pa_nil)) pa_nil)) (pg_name (i := 2) sc__law_indexes.nd rfl (Or.inl rfl)) (pss_cons (ps_asg (pe_ix ix_seq (pv 0) (pv 2) (fun _ _ => rfl)) (pg_tup rfl (pgs_cons (pg_name (i := 3) sc__law_indexes.nd rfl (Or.inl rfl)) (pgs_cons (pg_name (i := 4) sc__law_indexes.nd rfl (Or.inl rfl)) pgs_nil))))
      (pss_one (ps_if (PW.pt (pw_or (pt_cmpR op_isN (pe_ix ix_seq (pv 1) (pv 3) (fun _ _ => rfl)) pe_non (nomark _)) (pw_or1 (pt_cmpR op_lt (pe_h (E := ED E) h__law_compare hr (paW (takes_of rfl rfl rfl rfl)) (pa_cons (pv 4) (pa_cons (pe_ix ix_seq (pe_ix ix_seq (pv 0) (pe_ix ix_seq (pv 1) (pv 3) (fun _ _ => rfl)) (fun _ _ => rfl)) pe_int (fun _ _ => rfl)) pa_nil))) pe_int (nomark _))))) (pss_one (ps_asg (pv 2) (pg_sub (pv 1) (pv 3) set_list))) pss_nil))))
      (pss_one (ps_ret (pv 1))))), ?_⟩
    try simp only [cxOf]
    obtain ⟨a, ws, xs, rfl, ea, lr, ok, l4, q⟩ := h
    have lw : ws.length = xs.length := lr.1
    walk_at "W"
    refine k_lst rfl fun l0 H1 hl0 s1 e1 => ?_
    walk_at "W"
    refine w_rep e1 (by decide) (by decide) rfl fun u H2 hu s2 e2 => ?_
    have e2 : H2 u = some (.lst (List.replicate 8 .non)) := e2
    have S2 := s1.trans s2
    have nu : ∀ {b : Addr} {o : HO}, H b = some o → b ≠ u := fun h z => by rw [z] at h; rw [s1 _ _ h] at hu; cases hu
    have hu0 : H u = none := by
      cases hq : H u with
      | none => rfl
      | some o => rw [s1 _ _ hq] at hu; cases hu
    have ea2 := S2 _ _ ea
    have lr2 := lr.imp fun v x r => r.kps (Kps.same S2)
    have nau := nu ea
    walk_at "W"
    refine w_lenL (SqL.of ea2) ?_
    walk_at "W"
    refine k_forR (fun i σ' H' => (∃ z1 z2 z3, σ' = [some (.ref a), some (.ref u), z1, z2, z3]) ∧ SameX u H2 H' ∧ ∃ zs, H' u = some (.lst zs) ∧ zs.length = 8 ∧ ∀ z ∈ zs, z = .non ∨ ∃ j : Nat, z = .int j ∧ j < xs.length) (by omega) (by omega) ⟨⟨_, _, _, rfl⟩, fun _ _ _ e => e, _, e2, by simp, fun z hz => .inl (List.eq_of_mem_replicate hz)⟩ ?_ ?_
    · rintro i σ' H3 hi ⟨⟨z1, z2, z3, rfl⟩, x3, zs, ez, l8, hz⟩
      have K23 : Kps H2 H3 := Kps.sx e2 x3
      have il : i < ws.length := by omega
      have ei := List.getElem?_eq_getElem il
      obtain ⟨x, ex, hx⟩ := lr2.get ei
      generalize ws[i] = wi at *
      obtain ⟨p, yn, rfl, ep, ny⟩ := hx.kps K23
      have okx := ok x (List.mem_of_getElem? ex)
      have ea3 := x3 _ _ nau ea2
      rw [Int.zero_add]
      walk_at "W"
      refine w_ixL ea3 (atI_nat ei) ?_
      refine k_tupl2 ep rfl rfl ?_
      walk_at "W"
      obtain ⟨zv, ezv⟩ : ∃ zv, zs[x.d]? = some zv := ⟨_, List.getElem?_eq_getElem (by have := okx.1; omega)⟩
      have hzv := hz zv (List.mem_of_getElem? ezv)
      have ixd : ixN zs.length (x.d : Int) = some x.d := ixN_at (by have := okx.1; omega)
      have fin : ∀ {H4 H5 : Hp}, Same H3 H4 → SameX u H4 H5 → H5 u = some (.lst (zs.set x.d (.int (i : Nat)))) → SameX u H2 H5 ∧ ∃ zs, H5 u = some (.lst zs) ∧ zs.length = 8 ∧ ∀ z ∈ zs, z = .non ∨ ∃ j : Nat, z = .int j ∧ j < xs.length := fun {H4 H5} s4 x5 e5 => by
        refine ⟨fun b o n h => x5 _ _ n (s4 _ _ (x3 _ _ n h)), _, e5, by simp [l8], fun z hm => ?_⟩
        rcases List.mem_or_eq_of_mem_set hm with h | h
        · exact hz z h
        · exact .inr ⟨i, h, by omega⟩
      refine w_ixL ez (atI_nat ezv) ?_
      walk_at "W"
      rcases hzv with rfl | ⟨j, rfl, jl⟩
      · refine ⟨rfl, ?_⟩
        walk_at "W"
        refine w_setL ez ixd fun H5 x5 e5 => ?_
        exact ⟨⟨_, _, _, rfl⟩, fin (Same.refl _) x5 e5⟩
      · refine ⟨rfl, ?_⟩
        walk_at "W"
        refine w_ixL ez (atI_nat ezv) ?_
        have ej := List.getElem?_eq_getElem (show j < ws.length by omega)
        obtain ⟨x', ex', hx'⟩ := lr2.get ej
        generalize ws[j]'(by omega) = wj at *
        obtain ⟨p', yn', rfl, ep', ny'⟩ := hx'.kps K23
        have okx' := ok x' (List.mem_of_getElem? ex')
        refine w_ixL ea3 (atI_nat ej) ?_
        walk_at "W"
        try refine w_ixT ep' rfl ?_
        refine ⟨_, _, nuB x, nuB x', rfl, ny, ny', okx.2.mono (by decide) (by decide), okx'.2.mono (by decide) (by decide), fun H4 s4 => ?_⟩
        walk_at "W"
        by_cases hc : cmN (nuB x) (nuB x') < 0
        · rw [decide_eq_true hc]
          walk_at "W"
          refine w_setL (s4 _ _ ez) ixd fun H5 x5 e5 => ?_
          exact ⟨⟨_, _, _, rfl⟩, fin s4 x5 e5⟩
        · rw [decide_eq_false hc]
          walk_at "W"
          exact ⟨⟨_, _, _, rfl⟩, fun b o n h => s4 _ _ (x3 _ _ n h), zs, s4 _ _ ez, l8, hz⟩
    · rintro σ' H3 ⟨⟨z1, z2, z3, rfl⟩, x3, zs, ez, l8, hz⟩
      walk_at "W"
      exact q u zs H3 hu0 (fun b o e => x3 _ _ (nu e) (S2 _ _ e)) ez l8 hz
-- needs W28
local macro_rules | `(tactic| walk_at "s") => `(tactic| first | with_reducible refine L2.My.w_revL ?_)
theorem LsAt.unzip {α : Type} {R : Hp → V → α → Prop} {H : Hp} {S : List (V × α)} (h : ∀ p ∈ S, R H p.1 p.2) : LsAt R H (S.map Prod.fst) (S.map Prod.snd) := by
  refine ⟨by simp, fun i v x h1 h2 => ?_⟩
  rw [List.getElem?_map] at h1 h2
  cases e : S[i]? with
  | none => rw [e] at h1; cases h1
  | some p =>
    rw [e] at h1 h2
    cases h1
    cases h2
    exact h p (List.mem_of_getElem? e)
theorem dp_prs {K : PySem.W.Frag} {H : Hp} : ∀ {ws : List V} {xs : List (Int × Int)}, LsAt PrI H ws xs → DpAll K H ws (xs.map prD)
  | [], [], _ => .nil
  | [], _ :: _, h => by have := h.1; simp at this
  | _ :: _, [], h => by have := h.1; simp at this
  | w :: ws, x :: xs, h => by
    obtain ⟨p, rfl, e⟩ := h.2 0 w x rfl rfl
    exact .cons (.tup (SqT.of e) (.cons (.int _) (.cons (.int _) .nil))) (dp_prs ⟨by have := h.1; simpa using this, fun i v y h1 h2 => h.2 (i + 1) v y h1 h2⟩)
theorem k_sortedP {K : PySem.W.Frag} {H : Hp} {Q : VK} {l : Addr} {vs : List V} {cs : List (Int × Int)} (h : H l = some (.lst vs)) (hc : LsAt PrI H vs cs) (q : ∀ p H2 ws ms, H p = none → Same H H2 → H2 p = some (.lst ws) → LsAt PrI H2 ws ms → ms.Perm cs → Q (.ref p) H2) : rSortedD K [.ref l] H Q := by
  have e1 : ((vs.zip cs).mergeSort fun p q => PySem.W.dataLe false prD p.2 q.2).map (fun p => (p.1, prD p.2)) = srtD vs (cs.map prD) := by
    unfold srtD
    rw [List.zip_map_right]
    exact PySem.W.sort_maps _ fun _ _ _ _ => rfl
  have pz : ∀ p ∈ vs.zip cs, PrI H p.1 p.2 := fun p hp => by
    obtain ⟨i, hi, e⟩ := List.getElem_of_mem hp
    have hi' := hi
    rw [List.length_zip] at hi'
    rw [List.getElem_zip] at e
    rw [← e]
    exact hc.2 i _ _ (List.getElem?_eq_getElem (by omega)) (List.getElem?_eq_getElem (by omega))
  have perm := List.mergeSort_perm (vs.zip cs) (fun p q => PySem.W.dataLe false prD p.2 q.2)
  refine ⟨l, vs, cs.map prD, rfl, SqL.of h, dp_prs hc, PySem.W.AllAlike.of fun _ _ => rfl, PySem.W.Sortable.tuples fun _ => ⟨_, _, rfl⟩, fun d hd => ?_, fun p hp => ?_⟩
  · obtain ⟨c, _, rfl⟩ := List.mem_map.mp hd
    exact Nat.le_of_ble_eq_true rfl
  · rw [← e1, List.map_map]
    have hS : ∀ p ∈ (vs.zip cs).mergeSort (fun p q => PySem.W.dataLe false prD p.2 q.2), PrI H p.1 p.2 := fun p hp => pz p (perm.mem_iff.mp hp)
    have pm : (((vs.zip cs).mergeSort fun p q => PySem.W.dataLe false prD p.2 q.2).map Prod.snd).Perm cs := by
      have := perm.map Prod.snd
      rwa [List.map_snd_zip (Nat.le_of_eq hc.1.symm)] at this
    exact q p _ _ _ hp (Same.new hp) upd_same ((LsAt.unzip hS).imp fun v x h => PrI.kps h (Kps.same (Same.new hp))) pm
/-- a tuple of at most three pairs, their indexes and weights small -/
def WtV (H : Hp) (v : V) : Prop := ∃ (p : Addr) (xs : List V) (l : List (Int × Int)), v = .ref p ∧ H p = some (.tup xs) ∧ LsAt PrI H xs l ∧ (∀ x ∈ l, 0 ≤ x.1 ∧ x.1 < 400 ∧ Bw 2 x.2) ∧ l.length ≤ 3
theorem WtV.kps {H H' : Hp} {v : V} (h : WtV H v) (s : Kps H H') : WtV H' v := by
  obtain ⟨p, xs, l, e, h1, h2, h3⟩ := h
  exact ⟨p, xs, l, e, s.tup h1, h2.imp fun v x r => PrI.kps r s, h3⟩
theorem LsAt.somes {Z : Zs} {H : Hp} {xs : List V} {l : List (Int × Int)} (h : LsAt PrI H xs l) : LsAt (ItAt Z) H xs (l.map some) := ⟨by rw [List.length_map]; exact h.1, fun i v o h1 h2 => by
  rw [List.getElem?_map] at h2
  obtain ⟨x, e, rfl⟩ := Option.map_eq_some_iff.mp h2
  exact h.2 i v x h1 e⟩
theorem wtOk_somes {l : List (Int × Int)} (h : ∀ x ∈ l, Bw 80 x.2) : wtOk (l.map some) := fun x hx => by
  obtain ⟨y, hy, e⟩ := List.mem_map.mp hx
  rw [← Option.some.inj e]
  exact h y hy
theorem WtV.t {Z : Zs} {H : Hp} {v : V} (h : WtV H v) : ∃ t, TAt Z H v t ∧ wtT t := by
  obtain ⟨p, xs, l, e, h1, h2, h3, -⟩ := h
  exact ⟨some (l.map some), ⟨p, xs, e, h1, h2.somes⟩, fun l' e => by cases e; exact wtOk_somes fun x hx => (h3 x hx).2.2.mono (by decide)⟩
def Ixs (m : Nat) (zs : List V) : Prop := zs.length = 8 ∧ ∀ z ∈ zs, z = .non ∨ ∃ j : Nat, z = .int j ∧ j < m
theorem inV_non {xs : List V} (h : inV .non xs = false) : ∀ x ∈ xs, x ≠ .non := fun x hx e => by
  have : inV .non xs = true := by
    unfold inV
    exact List.any_eq_true.mpr ⟨x, hx, by rw [e]; rfl⟩
  rw [h] at this
  cases this
abbrev s__law_as_weights : Stmt := top 50
theorem sc__law_as_weights : FnScope ["indexes", "parts", "part"] ["indexes", "parts"] (defScope s__law_as_weights) := ⟨rfl, rfl, rfl, by decide +kernel, rfl, by decide +kernel, by decide +kernel⟩

def sp__law_as_weights (Z : Zs) : Sp := fun vs H Q E =>
  ∃ (a b : Addr) (zs : List V) (m : Nat) (vl : List V) (l : List (Int × Int)), vs = [.ref a, .ref b] ∧ H a = some (.lst zs) ∧ Ixs m zs ∧ m ≤ 400 ∧ H b = some (.lst vl) ∧ LsAt PrI H vl l ∧ (∀ x ∈ l, 0 ≤ x.1 ∧ x.1 ≤ 7 ∧ Bw 2 x.2) ∧ l.length ≤ 3 ∧ ∀ v H', Same H H' → (v = .non ∨ WtV H' v) → Q v H'
theorem ok__law_as_weights (T : Txt Z mg)  (D : AtF Z.K mg "_law_as_weights" "_law_as_weights" s__law_as_weights ["indexes", "parts"]) : Has P w Z.K mg base "_law_as_weights" 1 ["indexes", "parts"] (sp__law_as_weights Z) := by
  refine D.ok sc__law_as_weights (fun vs H Q E h => ?_) (fun cdv A outer s H vs Q E hr h => ?_)
  · obtain ⟨a, b, zs, m, vl, l, rfl, _⟩ := h
    rfl
  · refine ⟨_, (pss_cons (ps_if (pt_cmpR op_in_seq pe_non (pe_lc (own := [("part", 2)]) (g := gName 2) rfl sc__law_as_weights.nd (pi_list (pv 1)) (blkOk_by (N := ["indexes", "parts", "part"]) (sc := (defScope s__law_as_weights)) (by decide +kernel)) (fun _ _ _ _ _ => pg_name (i := 2) sc__law_as_weights.nd rfl (Or.inl rfl)) (fun _ _ _ _ _ => pts_nil) (fun _ _ _ _ _ => (pe_ix (ix_seqZ (K := Z.K) rfl) (pv 0) (pe_ix (ix_seqZ (K := Z.K) rfl) (pv 2) pe_int (fun _ _ => rfl)) (fun _ _ => rfl)))) (by rfl)) (pss_one (ps_ret pe_non)) pss_nil)
      (pss_one (ps_ret (pe_callTy cn_tuple rfl T.n_tuple (by decide +kernel) (pa_cons (pe_callB (cr_sortedD hr.units) rfl T.n_sorted (by decide +kernel) (pa_cons (pe_lc (own := [("part", 2)]) (g := gName 2) rfl sc__law_as_weights.nd (pi_list (pv 1)) (blkOk_by (N := ["indexes", "parts", "part"]) (sc := (defScope s__law_as_weights)) (by decide +kernel)) (fun _ _ _ _ _ => pg_name (i := 2) sc__law_as_weights.nd rfl (Or.inl rfl)) (fun _ _ _ _ _ => pts_nil) (fun _ _ _ _ _ => (pe_tup (pa_cons (pe_ix (ix_seqZ (K := Z.K) rfl) (pv 0) (pe_ix (ix_seqZ (K := Z.K) rfl) (pv 2) pe_int (fun _ _ => rfl)) (fun _ _ => rfl)) (pa_cons (pe_ix (ix_seqZ (K := Z.K) rfl) (pv 2) pe_int (fun _ _ => rfl)) pa_nil))))) pa_nil)) pa_nil))))), ?_⟩
    try simp only [cxOf]
    obtain ⟨a, b, zs, m, vl, l, rfl, ea, ⟨l8, hz⟩, m4, eb, lb, hl, l3, q⟩ := h
    have at8 : ∀ {x : Int × Int}, x ∈ l → atI zs x.1 = some (zs.getD x.1.toNat .non) ∧ zs.getD x.1.toNat .non ∈ zs := fun {x} hx => by
      obtain ⟨x0, x7, -⟩ := hl x hx
      have e : zs[x.1.toNat]? = some (zs.getD x.1.toNat .non) := by rw [List.getD_eq_getElem?_getD, List.getElem?_eq_getElem (by omega)]; rfl
      refine ⟨?_, List.mem_of_getElem? e⟩
      have := atI_nat e
      rwa [Int.toNat_of_nonneg x0] at this
    walk_at "W"
    refine k_lcL (xs := vl) (fun n D H' => H D = none ∧ Same H H' ∧ H' D = some (.lst ((l.take n).map fun x => zs.getD x.1.toNat .non))) (SqL.of eb) (fun D hD => ⟨hD, Same.new hD, upd_same⟩) (fun n D H' h => SqL.of (h.2.1 _ _ eb)) ?_ ?_
    · rintro n y D H2 hy ⟨hD, s2, eD⟩
      obtain ⟨x, ex, p, rfl, ep⟩ := lb.get hy
      have ax := at8 (List.mem_of_getElem? ex)
      refine ⟨rfl, w_yes (w_T rfl ?_)⟩
      walk_at "W"
      refine w_ixT (s2 _ _ ep) rfl ?_
      refine w_ixL (s2 _ _ ea) ax.1 ?_
      refine ⟨_, eD, few_lt (by rw [List.length_map, List.length_take]; omega), hD, fun b o eb => ?_, ?_⟩
      · rw [upd_ne (ne_of_none eb hD)]
        exact s2 _ _ eb
      · rw [upd_same, List.take_add_one, ex, List.map_append]
        rfl
    rintro D H2 ⟨hD, s2, eD⟩
    rw [lb.1, List.take_length] at eD
    refine ⟨D, _, rfl, .inl (SqL.of eD), rfl, List.all_eq_true.mpr fun v hv => ?_, ?_⟩
    · obtain ⟨x, hx, rfl⟩ := List.mem_map.mp hv
      rcases hz _ (at8 hx).2 with e | ⟨j, e, -⟩ <;> rw [e] <;> rfl
    rw [if_neg (by decide)]
    cases hin : inV .non (l.map fun x => zs.getD x.1.toNat .non) with
    | true =>
      walk_at "W"
      exact q .non H2 s2 (.inl rfl)
    | false =>
    have all : ∀ x ∈ l, ∃ j : Nat, zs.getD x.1.toNat .non = .int j ∧ j < m := fun x hx => by
      rcases hz _ (at8 hx).2 with e | h
      · exact absurd e (inV_non hin _ (List.mem_map.mpr ⟨x, hx, rfl⟩))
      · exact h
    obtain ⟨jx, hjx⟩ : ∃ jx : Int × Int → Nat, ∀ x, x ∈ l → zs.getD x.1.toNat .non = .int (jx x : Nat) ∧ jx x < m := Classical.axiomOfChoice (r := fun (x : Int × Int) (j : Nat) => x ∈ l → zs.getD x.1.toNat .non = .int ((j : Nat) : Int) ∧ j < m) fun x => by
      by_cases hx : x ∈ l
      · obtain ⟨j, h⟩ := all x hx
        exact ⟨j, fun _ => h⟩
      · exact ⟨0, fun h => absurd h hx⟩
    walk_at "W"
    refine k_lcL (xs := vl) (fun n D' H' => H2 D' = none ∧ Same H2 H' ∧ ∃ ts, H' D' = some (.lst ts) ∧ LsAt PrI H' ts ((l.take n).map fun x => (((jx x : Nat) : Int), x.2))) (SqL.of (s2 _ _ eb)) (fun D hD => ⟨hD, Same.new hD, [], upd_same, LsAt.nil⟩) (fun n D H' h => SqL.of (h.2.1 _ _ (s2 _ _ eb))) ?_ ?_
    · rintro n y D' H3 hy ⟨hD', s3, ts, eD', lt'⟩
      obtain ⟨x, ex, p, rfl, ep⟩ := lb.get hy
      have mx := List.mem_of_getElem? ex
      have ax := at8 mx
      have S3 := s2.trans s3
      have hj := hjx x mx
      refine ⟨rfl, w_yes (w_T rfl ?_)⟩
      walk_at "W"
      refine w_ixT (S3 _ _ ep) rfl ?_
      refine w_ixL (S3 _ _ ea) ax.1 ?_
      rw [hj.1]
      walk_at "W"
      refine w_ixT (S3 _ _ ep) rfl ?_
      walk_at "W"
      refine k_tup rfl fun t4 H4 ht4 s4 e4 => ?_
      have tl : ts.length ≤ 3 := by rw [lt'.1, List.length_map, List.length_take]; omega
      have eD4 := s4 _ _ eD'
      have kp : ∀ {zs' : List V}, Kps H4 (upd H4 D' (.lst zs')) := fun {zs'} => Kps.sx eD4 (SameX.upd fun _ _ _ e => e)
      refine ⟨ts, eD4, few_lt (by omega), hD', fun b o eb => ?_, _, upd_same, ?_⟩
      · rw [upd_ne (ne_of_none eb hD')]
        exact s4 _ _ (s3 _ _ eb)
      · rw [List.take_add_one, ex, List.map_append]
        exact LsAt.add (lt'.imp fun v x r => PrI.kps (PrI.kps r (Kps.same s4)) kp) (PrI.kps ⟨t4, rfl, e4⟩ kp)
    rintro D' H3 ⟨hD', s3, ts, eD', lt'⟩
    rw [lb.1, List.take_length] at lt'
    walk_at "W"
    refine k_sortedP eD' lt' fun p4 H4 ws ms hp4 s4 e4 lm pm => ?_
    walk_at "W"
    refine w_tupL e4 fun p5 H5 hp5 s5 e5 => ?_
    refine q _ H5 (s2.trans (s3.trans (s4.trans s5))) (.inr ⟨p5, ws, ms, rfl, e5, lm.imp fun v x r => PrI.kps r (Kps.same s5), fun x hx => ?_, ?_⟩)
    · obtain ⟨y, hy, rfl⟩ := List.mem_map.mp (pm.mem_iff.mp hx)
      have hj := hjx y hy
      exact ⟨by show (0 : Int) ≤ (jx y : Nat); omega, by show ((jx y : Nat) : Int) < 400; omega, (hl y hy).2.2⟩
    · rw [pm.length_eq, List.length_map]
      exact l3
theorem prs_shaped (ts : List (Int × Int)) : SeqAt.shaped (.list (ts.map prD)) = true := by
  have h1 : ∀ r : List (Int × Int), PyData.canLayAll0 (r.map prD) = true := fun r => by
    induction r with
    | nil => rfl
    | cons c r ih =>
      show PyData.canLayAll0 (prD c :: r.map prD) = true
      rw [PyData.canLayAll0, ih]
      rfl
  have h2 : ∀ r : List (Int × Int), PyData.depthAll (r.map prD) ≤ 3 := fun r => by
    induction r with
    | nil => exact Nat.zero_le _
    | cons c r ih =>
      have : (prD c).depth ≤ 2 := Nat.le_of_ble_eq_true rfl
      show PyData.depthAll (prD c :: r.map prD) ≤ 3
      rw [PyData.depthAll]
      omega
  unfold SeqAt.shaped
  rw [PyData.canLay0, h1, Bool.true_and, PyData.depth]
  have := h2 ts
  exact decide_eq_true (by omega)
theorem w_nePrs {K : PySem.W.Frag} {H : Hp} {Q : VK} {a b : Addr} {ws : List V} {xs : List (Int × Int)} (h1 : H a = some (.lst ws)) (hl : LsAt PrI H ws xs) (h2 : H b = some (.lst [])) (q : Q (.bl (!ws.isEmpty)) H) : rNeD K (.ref a) (.ref b) H Q :=
  ⟨.list (xs.map prD), .list [], .lst (SqL.of h1) (dp_prs hl), .lst (SqL.of h2) .nil, prs_shaped _, by decide +kernel, by
    cases xs with
    | nil =>
      cases ws with
      | nil => exact q
      | cons w ws => have := hl.1; simp at this
    | cons x xs =>
      cases ws with
      | nil => have := hl.1; simp at this
      | cons w ws => exact q⟩
/-- an item, its weight not too great -/
def ItOk (Z : Zs) (H : Hp) (v : V) : Prop := ∃ o, ItAt Z H v o ∧ ∀ y, o = some y → Bw 80 y.2
theorem ItOk.kl {Z : Zs} {H H' : Hp} {v : V} (h : ItOk Z H v) (k : KL H H') : ItOk Z H' v := by
  obtain ⟨o, h1, h2⟩ := h
  exact ⟨o, h1.kl k, h2⟩
def TOk (Z : Zs) (H : Hp) (v : V) : Prop := ∃ t, TAt Z H v t ∧ wtT t
theorem TOk.kl {Z : Zs} {H H' : Hp} {v : V} (h : TOk Z H v) (k : KL H H') : TOk Z H' v := by
  obtain ⟨t, h1, h2⟩ := h
  exact ⟨t, h1.kl k, h2⟩
theorem TOk.nt {Z : Zs} {H : Hp} {v : V} (h : NT H v) : TOk Z H v := ⟨none, h, fun l e => by cases e⟩
theorem its_ok {Z : Zs} {H : Hp} : ∀ {xs : List V}, (∀ v ∈ xs, ItOk Z H v) → ∃ l, LsAt (ItAt Z) H xs l ∧ wtOk l
  | [], _ => ⟨[], LsAt.nil, fun x h => by cases h⟩
  | v :: xs, h => by
    obtain ⟨o, h1, h2⟩ := h v (List.mem_cons_self ..)
    obtain ⟨l, h3, h4⟩ := its_ok (xs := xs) fun w hw => h w (List.mem_cons_of_mem _ hw)
    refine ⟨o :: l, by simpa using (LsAt.one h1).app h3, fun x hx => ?_⟩
    rcases List.mem_cons.mp hx with e | hx
    · exact h2 x e.symm
    · exact h4 x hx
theorem TOk.tup {Z : Zs} {H : Hp} {p : Addr} {xs : List V} (e : H p = some (.tup xs)) (h : ∀ v ∈ xs, ItOk Z H v) : TOk Z H (.ref p) := by
  obtain ⟨l, h1, h2⟩ := its_ok h
  exact ⟨some l, ⟨p, xs, rfl, e, h1⟩, fun l' e => by cases e; exact h2⟩
theorem ItOk.pr {Z : Zs} {H : Hp} {v : V} {x : Int × Int} (h : PrI H v x) (w : Bw 80 x.2) : ItOk Z H v := ⟨some x, h, fun y e => by cases e; exact w⟩
theorem ItOk.prs {Z : Zs} {H : Hp} {xs : List V} {l : List (Int × Int)} (h : LsAt PrI H xs l) (w : ∀ x ∈ l, Bw 80 x.2) : ∀ v ∈ xs, ItOk Z H v := fun v hv => by
  obtain ⟨i, hi, e⟩ := List.getElem_of_mem hv
  obtain ⟨x, ex, hx⟩ := h.get (List.getElem?_eq_getElem hi)
  rw [e] at hx
  exact .pr hx (w x (List.mem_of_getElem? ex))
theorem ItOk.nt {Z : Zs} {H : Hp} {v : V} (h : NT H v) : ItOk Z H v := ⟨none, .inl h, fun y e => by cases e⟩
theorem ItOk.len {Z : Zs} {H : Hp} {p : Addr} {xs : List V} (h : H p = some (.tup xs)) (n : xs.length ≠ 2) : ItOk Z H (.ref p) := ⟨none, .inr (.inl ⟨p, xs, rfl, h, n⟩), fun y e => by cases e⟩
theorem ItOk.two {Z : Zs} {H : Hp} {p : Addr} {x y : V} (h : H p = some (.tup [x, y])) (h1 : Th Z.c_Root H x) (h2 : Th Z.c_Root H y) (n : (isI x && isI y) = false) : ItOk Z H (.ref p) := ⟨none, .inr (.inr ⟨p, x, y, rfl, h, h1, h2, n⟩), fun y e => by cases e⟩
theorem cut_mem {ws : List V} {lo hi : Option Int} : ∀ v ∈ cutV ws lo hi, v ∈ ws := fun v hv => by
  unfold cutV at hv
  exact List.mem_of_mem_drop (List.mem_of_mem_take hv)
abbrev s__law_item_spoiled : Stmt := top 54
theorem sc__law_item_spoiled : FnScope ["draws", "item", "index", "weight", "many", "some"] ["draws", "item"] (defScope s__law_item_spoiled) := ⟨rfl, rfl, rfl, by decide +kernel, rfl, by decide +kernel, by decide +kernel⟩

def sp__law_item_spoiled (Z : Zs) : Sp := fun vs H Q E =>
  ∃ (p c : Addr) (v : V) (x : Int × Int), vs = [.ref p, v] ∧ St4 H p c ∧ PrI H v x ∧ 0 ≤ x.1 ∧ x.1 < 400 ∧ Bw 2 x.2 ∧ ∀ u H', SameX p H H' → St4 H' p c → ItOk Z H' u → Q u H'
theorem ok__law_item_spoiled (T : Txt Z mg) (h__law_draw : Has P w Z.K mg base "_law_draw" 1 ["draws", "many"] (sp__law_draw Z)) (h_Root : HasC P w Z.K mg base "Root" Z.c_Root 3 ["self", "top", "root", "bottom"] (sp_Root_init Z)) (D : AtF Z.K mg "_law_item_spoiled" "_law_item_spoiled" s__law_item_spoiled ["draws", "item"]) : Has P w Z.K mg base "_law_item_spoiled" 5 ["draws", "item"] (sp__law_item_spoiled Z) := by
  refine D.ok sc__law_item_spoiled (fun vs H Q E h => ?_) (fun cdv A outer s H vs Q E hr h => ?_)
  · obtain ⟨p, c, v, x, rfl, _⟩ := h
    rfl
  · refine ⟨_, (pss_cons (ps_asg (pv 1) (pg_tup rfl (pgs_cons (pg_name (i := 2) sc__law_item_spoiled.nd rfl (Or.inl rfl)) (pgs_cons (pg_name (i := 3) sc__law_item_spoiled.nd rfl (Or.inl rfl)) pgs_nil))))
      (pss_cons (ps_set (i := 4) sc__law_item_spoiled.nd rfl (Or.inl rfl) (pe_op op_add pe_int (pe_h (E := ED E) h__law_draw hr (paW (takes_of rfl rfl rfl rfl)) (pa_cons (pv 0) (pa_cons pe_int pa_nil)))))
      (pss_cons (ps_set (i := 5) sc__law_item_spoiled.nd rfl (Or.inl rfl) (pe_lst (pa_cons (pe_tup (pa_cons (pv 2) (pa_cons (pe_op op_add (pv 3) (pv 4)) pa_nil))) (pa_cons (pe_tup (pa_cons (pe_op op_add (pv 2) (pv 4)) (pa_cons (pv 3) pa_nil))) (pa_cons (pe_tup (pa_cons (pe_op op_sub (pv 2) (pv 4)) (pa_cons (pv 3) pa_nil))) (pa_cons (pe_tup (pa_cons (pv 2) (pa_cons (pe_op op_sub (pv 3) (pv 4)) pa_nil))) pa_nil))))))
      (pss_cons (ps_set (i := 5) sc__law_item_spoiled.nd rfl (Or.inl rfl) (pe_op op_cat (pv 5) (pe_lst (pa_cons (pe_tup (pa_cons (pv 2) (pa_cons (pe_un un_neg (pv 3)) pa_nil))) (pa_cons (pe_lst (pa_cons (pv 2) (pa_cons (pv 3) pa_nil))) (pa_cons (pe_tup (pa_cons (pv 2) pa_nil)) (pa_cons (pe_tup (pa_cons (pv 2) (pa_cons (pv 3) (pa_cons pe_int pa_nil)))) (pa_cons (pe_tup (pa_cons (pv 2) (pa_cons (pe_cmpR op_eq (pv 3) pe_int (nomark _)) pa_nil))) (pa_cons (pe_tup (pa_cons (pe_callTy call_str_int rfl T.n_str (by decide +kernel) (pa_cons (pv 2) pa_nil)) (pa_cons pe_int pa_nil))) pa_nil)))))))))
      (pss_cons (ps_set (i := 5) sc__law_item_spoiled.nd rfl (Or.inl rfl) (pe_op op_cat (pv 5) (pe_lst (pa_cons (pe_tup (pa_cons (pv 2) (pa_cons (pe_hc (E := ED E) h_Root hr (paW (takes_of rfl rfl rfl rfl)) (pa_cons (pv 3) (pa_cons pe_int (pa_cons pe_int pa_nil)))) pa_nil))) (pa_cons (pv 2) (pa_cons pe_non (pa_cons (pe_tup (pa_cons (pv 2) (pa_cons pe_non pa_nil))) (pa_cons (pe_tup (pa_cons (pe_tup (pa_cons (pv 2) (pa_cons (pv 3) pa_nil))) (pa_cons (pv 3) pa_nil))) (pa_cons (pe_tup (pa_cons (pe_cmpR op_eq (pv 2) pe_int (nomark _)) (pa_cons (pv 3) pa_nil))) pa_nil)))))))))
      (pss_one (ps_ret (pe_ix ix_seq (pv 5) (pe_h (E := ED E) h__law_draw hr (paW (takes_of rfl rfl rfl rfl)) (pa_cons (pv 0) (pa_cons (pe_callB cn_len rfl T.n_len (by decide +kernel) (pa_cons (pv 5) pa_nil)) pa_nil))) (fun _ _ => rfl))))))))), ?_⟩
    try simp only [cxOf]
    obtain ⟨p, c, v, x, rfl, st, ⟨pi, rfl, ei⟩, x0, x4, xw, q⟩ := h
    obtain ⟨i, w⟩ := x
    dsimp only at x0 x4 xw ei
    walk_at "W"
    refine k_tupl2 ei rfl rfl ?_
    walk_at "W"
    refine ⟨p, c, _, rfl, st, by decide, by unfold Bw; decide, fun m H1 m0 m1 x1 st1 => ?_⟩
    walk_at "W"
    refine k_tup rfl fun a1 H2 ha1 s2 e1 => ?_
    walk_at "W"
    refine k_tup rfl fun a2 H3 ha2 s3 e2 => ?_
    walk_at "W"
    refine k_tup rfl fun a3 H4 ha3 s4 e3 => ?_
    walk_at "W"
    refine k_tup rfl fun a4 H5 ha4 s5 e4 => ?_
    walk_at "W"
    refine k_lst rfl fun la H6 hla s6 ela => ?_
    walk_at "W"
    refine k_tup rfl fun b1 H7 hb1 s7 f1 => ?_
    walk_at "W"
    refine k_lst rfl fun b2 H8 hb2 s8 f2 => ?_
    walk_at "W"
    refine k_tup rfl fun b3 H9 hb3 s9 f3 => ?_
    walk_at "W"
    refine k_tup rfl fun b4 HA hb4 sA f4 => ?_
    walk_at "W"
    refine k_tup rfl fun b5 HB hb5 sB f5 => ?_
    walk_at "W"
    refine ⟨i, rfl, ?_, ?_⟩
    · exact PySem.Flt.log2_lt_of (by decide) (show i.natAbs < 2 ^ 1920 from Nat.lt_of_lt_of_le (show i.natAbs < 2 ^ 9 by omega) (Nat.pow_le_pow_right (by decide) (by decide)))
    walk_at "W"
    refine k_tup rfl fun b6 HC hb6 sC f6 => ?_
    walk_at "W"
    refine k_lst rfl fun lb HD hlb sD' elb => ?_
    have S6C : Same H6 HD := s7.trans (s8.trans (s9.trans (sA.trans (sB.trans (sC.trans sD')))))
    refine ⟨la, lb, _, _, rfl, rfl, S6C _ _ ela, elb, Nat.le_of_lt (few_lt (by show 4 + 6 ≤ 83521; decide)), fun lc hlc => ?_⟩
    have sE : Same HD (upd HD lc (.lst ([.ref a1, .ref a2, .ref a3, .ref a4] ++ [.ref b1, .ref b2, .ref b3, .ref b4, .ref b5, .ref b6]))) := Same.new hlc
    have eE : upd HD lc (.lst ([.ref a1, .ref a2, .ref a3, .ref a4] ++ [.ref b1, .ref b2, .ref b3, .ref b4, .ref b5, .ref b6])) lc = some (.lst ([.ref a1, .ref a2, .ref a3, .ref a4] ++ [.ref b1, .ref b2, .ref b3, .ref b4, .ref b5, .ref b6])) := upd_same
    generalize upd HD lc (.lst ([.ref a1, .ref a2, .ref a3, .ref a4] ++ [.ref b1, .ref b2, .ref b3, .ref b4, .ref b5, .ref b6])) = HE at *
    walk_at "W"
    refine k_mkRootI (by decide) (Bw.one.bd (by decide)) fun c0 HF sF hR => ?_
    walk_at "W"
    refine k_tup rfl fun c1 HG hc1 sG g1 => ?_
    walk_at "W"
    refine k_tup rfl fun c4 HH hc4 sH g4 => ?_
    walk_at "W"
    refine k_tup rfl fun c50 HI hc50 sI g50 => ?_
    walk_at "W"
    refine k_tup rfl fun c5 HJ hc5 sJ g5 => ?_
    walk_at "W"
    refine k_tup rfl fun c6 HK hc6 sK g6 => ?_
    walk_at "W"
    refine k_lst rfl fun ld HL hld sL eld => ?_
    have SEL : Same HE HL := sF.trans (sG.trans (sH.trans (sI.trans (sJ.trans (sK.trans sL)))))
    refine ⟨lc, ld, _, _, rfl, rfl, SEL _ _ eE, eld, Nat.le_of_lt (few_lt (by show (4 + 6) + 6 ≤ 83521; decide)), fun le hle => ?_⟩
    have sM : Same HL (upd HL le (.lst ([.ref a1, .ref a2, .ref a3, .ref a4] ++ [.ref b1, .ref b2, .ref b3, .ref b4, .ref b5, .ref b6] ++ [.ref c1, .int i, .non, .ref c4, .ref c5, .ref c6]))) := Same.new hle
    have eM : upd HL le (.lst ([.ref a1, .ref a2, .ref a3, .ref a4] ++ [.ref b1, .ref b2, .ref b3, .ref b4, .ref b5, .ref b6] ++ [.ref c1, .int i, .non, .ref c4, .ref c5, .ref c6])) le = some (.lst [.ref a1, .ref a2, .ref a3, .ref a4, .ref b1, .ref b2, .ref b3, .ref b4, .ref b5, .ref b6, .ref c1, .int i, .non, .ref c4, .ref c5, .ref c6]) := upd_same
    generalize upd HL le (.lst ([.ref a1, .ref a2, .ref a3, .ref a4] ++ [.ref b1, .ref b2, .ref b3, .ref b4, .ref b5, .ref b6] ++ [.ref c1, .int i, .non, .ref c4, .ref c5, .ref c6])) = HM at *
    have s1D : Same H1 HD := s2.trans (s3.trans (s4.trans (s5.trans (s6.trans S6C))))
    have s1M : Same H1 HM := s1D.trans (sE.trans (SEL.trans sM))
    have stM := st1.same s1M
    have nle := (((st1.same s1D).same sE).same SEL).new hle
    walk_at "W"
    refine w_lenL (SqL.of eM) ?_
    walk_at "W"
    refine ⟨p, c, _, rfl, stM, (by show (0 : Int) < ((16 : Nat) : Int); decide), (by show ((16 : Nat) : Int).natAbs < 2 ^ 70; decide), fun n HN n0 n1 xN stN => ?_⟩
    obtain ⟨j, rfl⟩ := Int.eq_ofNat_of_zero_le n0
    have j16 : j < 16 := by
      have : (j : Int) < 16 := n1
      omega
    have kl := stM.kl xN stN
    have kDM : KL HD HM := KL.same (sE.trans (SEL.trans sM))
    have kD := kDM.trans kl
    have kEM : KL HE HM := KL.same (SEL.trans sM)
    have kE := kEM.trans kl
    have eN := xN _ _ nle.1 eM
    have fin : ∀ {u : V}, ItOk Z HN u → Q u HN := fun h => q _ HN (x1.trans ((Same.x s1M).trans xN)) stN h
    have mw : Bw 3 (1 + m) := by unfold Bw; omega
    have w80 : ∀ {z : Int}, Bw 4 z → Bw 80 z := fun h => h.mono (by decide)
    have A1 : HD a1 = some (.tup [.int i, .int (w + (1 + m))]) := S6C _ _ (s6 _ _ (s5 _ _ (s4 _ _ (s3 _ _ e1))))
    have A2 : HD a2 = some (.tup [.int (i + (1 + m)), .int w]) := S6C _ _ (s6 _ _ (s5 _ _ (s4 _ _ e2)))
    have A3 : HD a3 = some (.tup [.int (i - (1 + m)), .int w]) := S6C _ _ (s6 _ _ (s5 _ _ e3))
    have A4 : HD a4 = some (.tup [.int i, .int (w - (1 + m))]) := S6C _ _ (s6 _ _ e4)
    have B1 : HD b1 = some (.tup [.int i, .int (-w)]) := sD' _ _ (sC _ _ (sB _ _ (sA _ _ (s9 _ _ (s8 _ _ f1)))))
    have B2 : HD b2 = some (.lst [.int i, .int w]) := sD' _ _ (sC _ _ (sB _ _ (sA _ _ (s9 _ _ f2))))
    have B3 : HD b3 = some (.tup [.int i]) := sD' _ _ (sC _ _ (sB _ _ (sA _ _ f3)))
    have B4 : HD b4 = some (.tup [.int i, .int w, .int 0]) := sD' _ _ (sC _ _ (sB _ _ f4))
    have B5 := sD' _ _ (sC _ _ f5)
    have B6 := sD' _ _ f6
    have C1 := sL _ _ (sK _ _ (sJ _ _ (sI _ _ (sH _ _ g1))))
    have C4 := sL _ _ (sK _ _ (sJ _ _ (sI _ _ g4)))
    have C50 := sL _ _ (sK _ _ (sJ _ _ g50))
    have C5 := sL _ _ (sK _ _ g5)
    have C6 := sL _ _ g6
    have CR : RootAt Z.c_Root HL c0 _ _ _ := ((((((hR.same sG).same sH).same sI).same sJ).same sK).same sL)
    have kL := (KL.same sM).trans kl
    rcases (show j = 0 ∨ j = 1 ∨ j = 2 ∨ j = 3 ∨ j = 4 ∨ j = 5 ∨ j = 6 ∨ j = 7 ∨ j = 8 ∨ j = 9 ∨ j = 10 ∨ j = 11 ∨ j = 12 ∨ j = 13 ∨ j = 14 ∨ j = 15 by omega) with rfl | rfl | rfl | rfl | rfl | rfl | rfl | rfl | rfl | rfl | rfl | rfl | rfl | rfl | rfl | rfl
    · exact w_ixL eN rfl (fin (.pr (x := (i, w + (1 + m))) ⟨a1, rfl, kD.k.tup A1⟩ (w80 ((xw.add mw).mono (by decide)))))
    · exact w_ixL eN rfl (fin (.pr (x := (i + (1 + m), w)) ⟨a2, rfl, kD.k.tup A2⟩ (w80 (xw.mono (by decide)))))
    · exact w_ixL eN rfl (fin (.pr (x := (i - (1 + m), w)) ⟨a3, rfl, kD.k.tup A3⟩ (w80 (xw.mono (by decide)))))
    · exact w_ixL eN rfl (fin (.pr (x := (i, w - (1 + m))) ⟨a4, rfl, kD.k.tup A4⟩ (w80 ((xw.sub mw).mono (by decide)))))
    · exact w_ixL eN rfl (fin (.pr (x := (i, -w)) ⟨b1, rfl, kD.k.tup B1⟩ (w80 (xw.neg.mono (by decide)))))
    · refine w_ixL eN rfl (fin (.nt ?_))
      obtain ⟨ys, h⟩ := kD.l _ _ B2
      exact .inr (.inr (.inr (.inr (.inl ⟨b2, ys, rfl, h⟩))))
    · exact w_ixL eN rfl (fin (.len (kD.k.tup B3) (by show 1 ≠ 2; decide)))
    · exact w_ixL eN rfl (fin (.len (kD.k.tup B4) (by show 3 ≠ 2; decide)))
    · exact w_ixL eN rfl (fin (.two (kD.k.tup B5) (.int _) (.bl _) rfl))
    · exact w_ixL eN rfl (fin (.two (kD.k.tup B6) (.str _) (.int _) rfl))
    · refine w_ixL eN rfl (fin ?_)
      obtain ⟨ra, rdx, rfl, er⟩ := CR
      exact .two (kL.k.tup C1) (.int _) (Th.kl (.root ra rdx _ _ _ er) kL) rfl
    · exact w_ixL eN rfl (fin (.nt (.inr (.inr (.inl ⟨i, rfl⟩)))))
    · exact w_ixL eN rfl (fin (.nt (.inl rfl)))
    · exact w_ixL eN rfl (fin (.two (kL.k.tup C4) (.int _) .non rfl))
    · exact w_ixL eN rfl (fin (.two (kL.k.tup C5) (Th.kl (.tup c50 _ C50) kL) (.int _) rfl))
    · exact w_ixL eN rfl (fin (.two (kL.k.tup C6) (.bl _) (.int _) rfl))
abbrev s__law_spoiled : Stmt := top 55
theorem sc__law_spoiled : FnScope ["draws", "items", "kind", "row", "at", "part", "item"] ["draws", "items"] (defScope s__law_spoiled) := ⟨rfl, rfl, rfl, by decide +kernel, rfl, by decide +kernel, by decide +kernel⟩

def sp__law_spoiled (Z : Zs) : Sp := fun vs H Q E =>
  ∃ (p c : Addr) (v : V), vs = [.ref p, v] ∧ St4 H p c ∧ WtV H v ∧ ∀ u H', SameX p H H' → St4 H' p c → TOk Z H' u → Q u H'
theorem ok__law_spoiled (T : Txt Z mg) (h__law_item_spoiled : Has P w Z.K mg base "_law_item_spoiled" 5 ["draws", "item"] (sp__law_item_spoiled Z)) (h__law_draw : Has P w Z.K mg base "_law_draw" 1 ["draws", "many"] (sp__law_draw Z)) (D : AtF Z.K mg "_law_spoiled" "_law_spoiled" s__law_spoiled ["draws", "items"]) : Has P w Z.K mg base "_law_spoiled" 6 ["draws", "items"] (sp__law_spoiled Z) := by
  refine D.ok sc__law_spoiled (fun vs H Q E h => ?_) (fun cdv A outer s H vs Q E hr h => ?_)
  · obtain ⟨p, c, v, rfl, _⟩ := h
    rfl
  · refine ⟨_, (pss_cons (ps_set (i := 2) sc__law_spoiled.nd rfl (Or.inl rfl) (pe_h (E := ED E) h__law_draw hr (paW (takes_of rfl rfl rfl rfl)) (pa_cons (pv 0) (pa_cons pe_int pa_nil))))
      (pss_cons (ps_set (i := 3) sc__law_spoiled.nd rfl (Or.inl rfl) (pe_callTy cn_list rfl T.n_list (by decide +kernel) (pa_cons (pv 1) pa_nil)))
      (pss_cons (ps_set (i := 4) sc__law_spoiled.nd rfl (Or.inl rfl) (pe_h (E := ED E) h__law_draw hr (paW (takes_of rfl rfl rfl rfl)) (pa_cons (pv 0) (pa_cons (pe_callB (call_max2 rfl) rfl T.n_max (by decide +kernel) (pa_cons pe_int (pa_cons (pe_callB cn_len rfl T.n_len (by decide +kernel) (pa_cons (pv 3) pa_nil)) pa_nil))) pa_nil))))
      (pss_cons (ps_if (pt_cmpR op_eq (pv 2) pe_int (nomark _)) (pss_one (ps_ret (pe_ix ix_seq (pe_lst (pa_cons (pe_callTy cn_list rfl T.n_list (by decide +kernel) (pa_cons (pv 3) pa_nil)) (pa_cons (pe_ifExp (pt_cmpR (op_neD hr.units) (pv 3) (pe_lst pa_nil) (nomark _)) (pe_ix ix_seq (pv 3) pe_int (fun _ _ => rfl)) pe_int) (pa_cons pe_non (pa_cons pe_dnewK (pa_cons (pe_callB cn_len rfl T.n_len (by decide +kernel) (pa_cons (pv 3) pa_nil)) (pa_cons pe_str pa_nil))))))) (pe_h (E := ED E) h__law_draw hr (paW (takes_of rfl rfl rfl rfl)) (pa_cons (pv 0) (pa_cons pe_int pa_nil))) (fun _ _ => rfl)))) pss_nil)
      (pss_cons (ps_if (pt_cmpR op_eq (pv 2) pe_int (nomark _)) (pss_one (ps_ret (pe_callTy cn_tuple rfl T.n_tuple (by decide +kernel) (pa_cons (pe_op op_cat (pe_slice sl_list (pv 3) po_none (po_some (pv 4))) (pe_slice sl_list (pv 3) (po_some (pe_op op_add (pv 4) pe_int)) po_none)) pa_nil)))) pss_nil)
      (pss_cons (ps_if (pt_cmpR op_eq (pv 2) pe_int (nomark _)) (pss_one (ps_ret (pe_callTy cn_tuple rfl T.n_tuple (by decide +kernel) (pa_cons (pe_revL (pv 3)) pa_nil)))) pss_nil)
      (pss_cons (ps_if (pt_cmpR op_eq (pv 2) pe_int (nomark _)) (pss_one (ps_ret (pe_callTy cn_tuple rfl T.n_tuple (by decide +kernel) (pa_cons (pe_op op_cat (pv 3) (pe_lst (pa_cons (pe_tup (pa_cons (pe_h (E := ED E) h__law_draw hr (paW (takes_of rfl rfl rfl rfl)) (pa_cons (pv 0) (pa_cons pe_int pa_nil))) (pa_cons (pe_op op_add pe_int (pe_h (E := ED E) h__law_draw hr (paW (takes_of rfl rfl rfl rfl)) (pa_cons (pv 0) (pa_cons pe_int pa_nil)))) pa_nil))) pa_nil))) pa_nil)))) pss_nil)
      (pss_cons (ps_if (pt_cmpR op_eq (pv 2) pe_int (nomark _)) (pss_cons (ps_set (i := 5) sc__law_spoiled.nd rfl (Or.inr rfl) (pe_op op_add pe_int (pe_h (E := ED E) h__law_draw hr (paW (takes_of rfl rfl rfl rfl)) (pa_cons (pv 0) (pa_cons (pe_op op_pow pe_int pe_int) pa_nil)))))
      (pss_one (ps_ret (pe_callTy cn_tuple rfl T.n_tuple (by decide +kernel) (pa_cons (pe_lc (own := [("item", 6)]) (g := gName 6) rfl sc__law_spoiled.nd (pi_list (pv 3)) (blkOk_by (N := ["draws", "items", "kind", "row", "at", "part", "item"]) (sc := (defScope s__law_spoiled)) (by decide +kernel)) (fun _ _ _ _ _ => pg_name (i := 6) sc__law_spoiled.nd rfl (Or.inl rfl)) (fun _ _ _ _ _ => pts_nil) (fun _ _ _ _ _ => (pe_tup (pa_cons (pe_ix (ix_seqZ (K := Z.K) rfl) (pv 6) pe_int (fun _ _ => rfl)) (pa_cons (pe_op op_mulS (pe_ix (ix_seqZ (K := Z.K) rfl) (pv 6) pe_int (fun _ _ => rfl)) (pv 5)) pa_nil))))) pa_nil))))) pss_nil)
      (C8.pss_cut (ps_if (PW.pt (pw_and (pt_cmpR op_eq (pv 2) pe_int (nomark _)) (pw_and1 (pt_cmpR (op_neD hr.units) (pv 3) (pe_lst pa_nil) (nomark _))))) (pss_cons (ps_set (i := 3) sc__law_spoiled.nd rfl (Or.inl rfl) (pe_op op_cat (pe_op op_cat (pe_slice sl_list (pv 3) po_none (po_some (pv 4))) (pe_lst (pa_cons (pe_ix ix_seq (pv 3) (pv 4) (fun _ _ => rfl)) pa_nil))) (pe_slice sl_list (pv 3) (po_some (pv 4)) po_none)))
      (pss_one (ps_ret (pe_callTy cn_tuple rfl T.n_tuple (by decide +kernel) (pa_cons (pv 3) pa_nil))))) pss_nil)
      (pss_cons (ps_if (pt_cmpR (op_neD hr.units) (pv 3) (pe_lst pa_nil) (nomark _)) (pss_one (ps_asg (pe_h (E := ED E) h__law_item_spoiled hr (paW (takes_of rfl rfl rfl rfl)) (pa_cons (pv 0) (pa_cons (pe_ix ix_seq (pv 3) (pv 4) (fun _ _ => rfl)) pa_nil))) (pg_sub (pv 3) (pv 4) set_list))) pss_nil)
      (pss_one (ps_ret (pe_callTy cn_tuple rfl T.n_tuple (by decide +kernel) (pa_cons (pv 3) pa_nil)))))))))))))), ?_⟩
    try simp only [cxOf]
    obtain ⟨p, c, v, rfl, st, ⟨pv, xs, l, rfl, ev, lx, hl, l3⟩, q⟩ := h
    have xl : xs.length ≤ 3 := by rw [lx.1]; exact l3
    walk_at "W"
    refine ⟨p, c, _, rfl, st, by decide, by unfold Bw; decide, fun kd H1 k0 k1 x1 st1 => ?_⟩
    have K1 := st.kps x1
    have ev1 := K1.tup ev
    walk_at "W"
    refine w_listT (SqT.of ev1) fun r H2 hr2 s2 er => ?_
    have nr := st1.new hr2
    have st2 := st1.same s2
    walk_at "W"
    refine w_lenL (SqL.of er) ?_
    refine ⟨_, _, rfl, ?_⟩
    have mx : ∃ M : Int, (if ((xs.length : Nat) : Int) > 1 then ((xs.length : Nat) : Int) else 1) = M ∧ 0 < M ∧ M ≤ 3 ∧ (xs ≠ [] → M ≤ (xs.length : Nat)) := by
      refine ⟨_, rfl, ?_⟩
      split
      · exact ⟨by omega, by omega, fun _ => Int.le_refl _⟩
      · refine ⟨by decide, by decide, fun h => ?_⟩
        have : 0 < xs.length := List.length_pos_iff.mpr h
        omega
    obtain ⟨M, eM, M0, M3, Mx⟩ := mx
    rw [eM]
    walk_at "W"
    refine ⟨p, c, _, rfl, st2, M0, by unfold Bw; omega, fun at_ H3 a0 aM x3 st3 => ?_⟩
    have er3 := x3 _ _ nr.1 er
    have K23 := st2.kps x3
    have lx3 : LsAt PrI H3 xs l := lx.imp fun v x h => PrI.kps (PrI.kps (PrI.kps h K1) (Kps.same s2)) K23
    have hl80 : ∀ x ∈ l, Bw 80 x.2 := fun x hx => (hl x hx).2.2.mono (by decide)
    have X3 : SameX p H H3 := x1.trans ((Same.x s2).trans x3)
    have its3 := ItOk.prs (Z := Z) lx3 hl80
    have nep : ∀ {u : Addr} {H4 : Hp} {QB : Bool → Hp → Prop}, Same H3 H4 → H4 u = some (.lst []) → QB (!xs.isEmpty) H4 → rNeD Z.K (.ref r) (.ref u) H4 (fun x H' => ∃ k, x = .bl k ∧ QB k H') := fun {u H4 QB} s4 e4 k => w_nePrs (s4 _ _ er3) (lx3.imp fun v x h => PrI.kps h (Kps.same s4)) e4 ⟨_, rfl, k⟩
    have tup : ∀ {l4 : Addr} {H4 : Hp} {ys : List V}, SameX p H3 H4 → St4 H4 p c → H4 l4 = some (.lst ys) → (∀ v ∈ ys, ItOk Z H4 v) → rTupOf Z.K [.ref l4] H4 Q := fun {l4 H4 ys} x4 st4 e4 ok4 => w_tupL e4 fun p5 H5 hp5 s5 e5 => q _ H5 (X3.trans (x4.trans (Same.x s5))) (st4.same s5) (.tup e5 fun v hv => (ok4 v hv).kl (KL.same s5))
    walk_at "W"
    by_cases h0 : kd = 0
    · rw [decide_eq_true (by rw [h0])]
      walk_at "W"
      refine w_listL (SqL.of er3) fun l4 H4 hl4 s4 e4 => ?_
      walk_at "W"
      refine k_lst rfl fun l5 H5 hl5 s5 e5 => ?_
      have S5 := s4.trans s5
      refine nep S5 e5 ?_
      cases xs with
      | nil =>
        walk_at "W"
        refine k_dnew fun dp H6 hdp s6 e6 => ?_
        have er6 := s6 _ _ (S5 _ _ er3)
        walk_at "W"
        refine w_lenL (SqL.of er6) ?_
        walk_at "W"
        refine k_lst rfl fun l7 H7 hl7 s7 e7 => ?_
        have S7 := S5.trans (s6.trans s7)
        have n7 := ((st3.same S5).same s6).new hl7
        walk_at "W"
        refine ⟨p, c, _, rfl, st3.same S7, by decide, by unfold Bw; decide, fun n H8 n0 n1 x8 st8 => ?_⟩
        obtain ⟨j, rfl⟩ := Int.eq_ofNat_of_zero_le n0
        have j6 : j < 6 := by omega
        have kl := (st3.same S7).kl x8 st8
        have e8 := x8 _ _ n7.1 e7
        have fin : ∀ {u : V}, TOk Z H8 u → Q u H8 := fun h => q _ H8 (X3.trans ((Same.x S7).trans x8)) st8 h
        have hL : NT H8 (.ref l4) := NT.kl (.inr (.inr (.inr (.inr (.inl ⟨l4, _, rfl, s7 _ _ (s6 _ _ (s5 _ _ e4))⟩))))) kl
        have hD : NT H8 (.ref dp) := NT.kl (.inr (.inr (.inr (.inr (.inr ⟨dp, _, rfl, s7 _ _ e6⟩))))) kl
        rcases (show j = 0 ∨ j = 1 ∨ j = 2 ∨ j = 3 ∨ j = 4 ∨ j = 5 by omega) with rfl | rfl | rfl | rfl | rfl | rfl
        · exact w_ixL e8 rfl (fin (.nt hL))
        · exact w_ixL e8 rfl (fin (.nt (.inr (.inr (.inl ⟨0, rfl⟩)))))
        · exact w_ixL e8 rfl (fin (.nt (.inl rfl)))
        · exact w_ixL e8 rfl (fin (.nt hD))
        · exact w_ixL e8 rfl (fin (.nt (.inr (.inr (.inl ⟨_, rfl⟩)))))
        · exact w_ixL e8 rfl (fin (.nt (.inr (.inr (.inr (.inl ⟨_, rfl⟩))))))
      | cons v0 vr =>
        obtain ⟨x0, ex0, p0, rfl, ep0⟩ := lx3.get (i := 0) rfl
        walk_at "W"
        refine w_ixL (S5 _ _ er3) (show atI (V.ref p0 :: vr) 0 = some (V.ref p0) from atI_nat (show (V.ref p0 :: vr)[0]? = some (V.ref p0) from rfl)) ?_
        walk_at "W"
        refine k_dnew fun dp H6 hdp s6 e6 => ?_
        have er6 := s6 _ _ (S5 _ _ er3)
        walk_at "W"
        refine w_lenL (SqL.of er6) ?_
        walk_at "W"
        refine k_lst rfl fun l7 H7 hl7 s7 e7 => ?_
        have S7 := S5.trans (s6.trans s7)
        have n7 := ((st3.same S5).same s6).new hl7
        walk_at "W"
        refine ⟨p, c, _, rfl, st3.same S7, by decide, by unfold Bw; decide, fun n H8 n0 n1 x8 st8 => ?_⟩
        obtain ⟨j, rfl⟩ := Int.eq_ofNat_of_zero_le n0
        have j6 : j < 6 := by omega
        have kl := (st3.same S7).kl x8 st8
        have e8 := x8 _ _ n7.1 e7
        have fin : ∀ {u : V}, TOk Z H8 u → Q u H8 := fun h => q _ H8 (X3.trans ((Same.x S7).trans x8)) st8 h
        have hL : NT H8 (.ref l4) := NT.kl (.inr (.inr (.inr (.inr (.inl ⟨l4, _, rfl, s7 _ _ (s6 _ _ (s5 _ _ e4))⟩))))) kl
        have hD : NT H8 (.ref dp) := NT.kl (.inr (.inr (.inr (.inr (.inr ⟨dp, _, rfl, s7 _ _ e6⟩))))) kl
        rcases (show j = 0 ∨ j = 1 ∨ j = 2 ∨ j = 3 ∨ j = 4 ∨ j = 5 by omega) with rfl | rfl | rfl | rfl | rfl | rfl
        · exact w_ixL e8 rfl (fin (.nt hL))
        · exact w_ixL e8 rfl (fin (.tup (kl.k.tup (S7 _ _ ep0)) fun v hv => by
            simp only [List.mem_cons, List.not_mem_nil, or_false] at hv
            rcases hv with rfl | rfl
            · exact .nt (.inr (.inr (.inl ⟨_, rfl⟩)))
            · exact .nt (.inr (.inr (.inl ⟨_, rfl⟩)))))
        · exact w_ixL e8 rfl (fin (.nt (.inl rfl)))
        · exact w_ixL e8 rfl (fin (.nt hD))
        · exact w_ixL e8 rfl (fin (.nt (.inr (.inr (.inl ⟨_, rfl⟩)))))
        · exact w_ixL e8 rfl (fin (.nt (.inr (.inr (.inr (.inl ⟨_, rfl⟩))))))
    rw [decide_eq_false (fun z => h0 (by injection z))]
    walk_at "W"
    by_cases h1 : kd = 1
    · rw [decide_eq_true (by rw [h1])]
      walk_at "W"
      refine k_slL (SqL.of er3) fun l4 H4 hl4 s4 e4 => ?_
      walk_at "W"
      refine k_slL (SqL.of (s4 _ _ er3)) fun l5 H5 hl5 s5 e5 => ?_
      have cl1 := cutV_length xs none (some at_)
      have cl2 := cutV_length xs (some (at_ + 1)) none
      refine ⟨l4, l5, _, _, rfl, rfl, s5 _ _ e4, e5, Nat.le_of_lt (few_lt (by omega)), fun l6 hl6 => ?_⟩
      have s6 : Same H5 (upd H5 l6 (.lst (cutV xs none (some at_) ++ cutV xs (some (at_ + 1)) none))) := Same.new hl6
      walk_at "W"
      refine tup (Same.x (s4.trans (s5.trans s6))) (st3.same (s4.trans (s5.trans s6))) upd_same fun v hv => (its3 v ?_).kl (KL.same (s4.trans (s5.trans s6)))
      rcases List.mem_append.mp hv with h | h
      · exact cut_mem v h
      · exact cut_mem v h
    rw [decide_eq_false (fun z => h1 (by injection z))]
    walk_at "W"
    by_cases h2 : kd = 2
    · rw [decide_eq_true (by rw [h2])]
      walk_at "W"
      first | refine ⟨r, xs, rfl, SqL.of er3, fun l4 hl4 => ?_⟩ | refine ⟨.ref r, rfl, r, xs, rfl, SqL.of er3, fun l4 hl4 => ?_⟩
      have s4 : Same H3 (upd H3 l4 (.lst xs.reverse)) := Same.new hl4
      walk_at "W"
      exact tup (Same.x s4) (st3.same s4) upd_same fun v hv => (its3 v (List.mem_reverse.mp hv)).kl (KL.same s4)
    rw [decide_eq_false (fun z => h2 (by injection z))]
    walk_at "W"
    by_cases h3 : kd = 3
    · rw [decide_eq_true (by rw [h3])]
      walk_at "W"
      refine ⟨p, c, _, rfl, st3, by decide, by unfold Bw; decide, fun n1 H4 n10 n11 x4 st4 => ?_⟩
      walk_at "W"
      refine ⟨p, c, _, rfl, st4, by decide, by unfold Bw; decide, fun n2 H5 n20 n21 x5 st5 => ?_⟩
      walk_at "W"
      refine k_tup rfl fun t6 H6 ht6 s6 e6 => ?_
      walk_at "W"
      refine k_lst rfl fun l7 H7 hl7 s7 e7 => ?_
      have X7 : SameX p H3 H7 := x4.trans (x5.trans (Same.x (s6.trans s7)))
      have st7 := (st5.same s6).same s7
      refine ⟨r, l7, _, _, rfl, rfl, X7 _ _ nr.1 er3, e7, Nat.le_of_lt (few_lt (by show xs.length + 1 ≤ 83521; omega)), fun l8 hl8 => ?_⟩
      have s8 : Same H7 (upd H7 l8 (.lst (xs ++ [.ref t6]))) := Same.new hl8
      have st8 := st7.same s8
      have X8 := X7.trans (Same.x s8)
      walk_at "W"
      refine tup X8 st8 upd_same fun v hv => ?_
      rcases List.mem_append.mp hv with h | h
      · exact (its3 v h).kl (st3.kl X8 st8)
      · rw [List.mem_singleton.mp h]
        exact .pr (x := (n1, 1 + n2)) ⟨t6, rfl, s8 _ _ (s7 _ _ e6)⟩ (by show Bw 80 (1 + n2); unfold Bw; omega)
    rw [decide_eq_false (fun z => h3 (by injection z))]
    walk_at "W"
    by_cases h4 : kd = 4
    · rw [decide_eq_true (by rw [h4])]
      walk_at "W"
      refine ⟨p, c, _, rfl, st3, by decide, by unfold Bw; decide, fun n1 H4 n10 n11 x4 st4 => ?_⟩
      have n1x : n1 < 100000000000000000000 := n11
      have pw : Bw 70 (2 + n1) := by unfold Bw; omega
      have er4 := x4 _ _ nr.1 er3
      have lx4 := lx3.imp fun v x h => PrI.kps h (st3.kps x4)
      walk_at "W"
      refine k_lcL (xs := xs) (fun n D H' => H4 D = none ∧ Same H4 H' ∧ ∃ ts, H' D = some (.lst ts) ∧ LsAt PrI H' ts ((l.take n).map fun x => (x.1, x.2 * (2 + n1)))) (SqL.of er4) (fun D hD => ⟨hD, Same.new hD, [], upd_same, LsAt.nil⟩) (fun n D H' h => SqL.of (h.2.1 _ _ er4)) ?_ ?_
      · rintro n y D H5 hy ⟨hD, s5, ts, eD, lt'⟩
        obtain ⟨x, ex, px, rfl, ep⟩ := lx4.get hy
        have hx := hl x (List.mem_of_getElem? ex)
        refine ⟨rfl, w_yes (w_T rfl ?_)⟩
        walk_at "W"
        refine w_ixT (s5 _ _ ep) rfl ?_
        walk_at "W"
        refine w_ixT (s5 _ _ ep) rfl ?_
        walk_at "W"
        refine w_I (bwm hx.2.2 pw (by decide)) ?_
        walk_at "W"
        refine k_tup rfl fun t6 H6 ht6 s6 e6 => ?_
        have tl : ts.length ≤ 3 := by rw [lt'.1, List.length_map, List.length_take]; omega
        have eD6 := s6 _ _ eD
        have kp : ∀ {zs' : List V}, Kps H6 (upd H6 D (.lst zs')) := fun {zs'} => Kps.sx eD6 (SameX.upd fun _ _ _ e => e)
        refine ⟨ts, eD6, few_lt (by omega), hD, fun b o eb => ?_, _, upd_same, ?_⟩
        · rw [upd_ne (ne_of_none eb hD)]
          exact s6 _ _ (s5 _ _ eb)
        · rw [List.take_add_one, ex, List.map_append]
          exact LsAt.add (lt'.imp fun v x r => PrI.kps (PrI.kps r (Kps.same s6)) kp) (PrI.kps ⟨t6, rfl, e6⟩ kp)
      rintro D H5 ⟨hD, s5, ts, eD, lt'⟩
      rw [lx.1, List.take_length] at lt'
      walk_at "W"
      refine tup (x4.trans (Same.x s5)) (st4.same s5) eD (ItOk.prs lt' fun x hx => ?_)
      obtain ⟨y, hy, rfl⟩ := List.mem_map.mp hx
      exact ((hl y hy).2.2.mul pw).mono (by decide)
    rw [decide_eq_false (fun z => h4 (by injection z))]
    refine w_cut (fun σ' H' => σ' = [some (.ref p), some (.ref pv), some (.int kd), some (.ref r), some (.int at_), none, none] ∧ Same H3 H') ?_ ?_
    · walk_at "W"
      by_cases h5 : kd = 5
      · rw [decide_eq_true (by rw [h5])]
        walk_at "W"
        refine k_lst rfl fun l5 H5 hl5 s5 e5 => ?_
        refine nep s5 e5 ?_
        cases xs with
        | nil =>
          walk_at "W"
          exact ⟨rfl, s5⟩
        | cons v0 vr =>
          have er5 := s5 _ _ er3
          walk_at "W"
          refine k_slL (SqL.of er5) fun l6 H6 hl6 s6 e6 => ?_
          walk_at "W"
          obtain ⟨j, rfl⟩ := Int.eq_ofNat_of_zero_le a0
          have jl : j < (v0 :: vr).length := by have := Mx (by simp); omega
          have ej := List.getElem?_eq_getElem jl
          have mj := List.getElem_mem jl
          generalize (v0 :: vr)[j] = vj at *
          refine w_ixL (s6 _ _ er5) (atI_nat ej) ?_
          walk_at "W"
          refine k_lst rfl fun l7 H7 hl7 s7 e7 => ?_
          have cl1 := cutV_length (v0 :: vr) none (some (j : Int))
          have cl2 := cutV_length (v0 :: vr) (some (j : Int)) none
          refine ⟨l6, l7, _, _, rfl, rfl, s7 _ _ e6, e7, Nat.le_of_lt (few_lt (by show _ + 1 ≤ 83521; omega)), fun l8 hl8 => ?_⟩
          have s8 : Same H7 (upd H7 l8 (.lst (cutV (v0 :: vr) none (some (j : Int)) ++ [vj]))) := Same.new hl8
          have e8 : upd H7 l8 (.lst (cutV (v0 :: vr) none (some (j : Int)) ++ [vj])) l8 = some (.lst (cutV (v0 :: vr) none (some (j : Int)) ++ [vj])) := upd_same
          generalize upd H7 l8 (.lst (cutV (v0 :: vr) none (some (j : Int)) ++ [vj])) = H8 at *
          have S8 := s5.trans (s6.trans (s7.trans s8))
          walk_at "W"
          refine k_slL (SqL.of (S8 _ _ er3)) fun l9 H9 hl9 s9 e9 => ?_
          refine ⟨l8, l9, _, _, rfl, rfl, s9 _ _ e8, e9, Nat.le_of_lt (few_lt (by rw [List.length_append]; show _ + 1 + _ ≤ 83521; omega)), fun lA hlA => ?_⟩
          have sA : Same H9 (upd H9 lA (.lst (cutV (v0 :: vr) none (some (j : Int)) ++ [vj] ++ cutV (v0 :: vr) (some (j : Int)) none))) := Same.new hlA
          have SA := S8.trans (s9.trans sA)
          walk_at "W"
          refine tup (Same.x SA) (st3.same SA) upd_same fun v hv => (its3 v ?_).kl (KL.same SA)
          rcases List.mem_append.mp hv with h | h
          · rcases List.mem_append.mp h with h | h
            · exact cut_mem v h
            · rw [List.mem_singleton.mp h]
              exact mj
          · exact cut_mem v h
      · rw [decide_eq_false (fun z => h5 (by injection z))]
        walk_at "W"
        exact ⟨rfl, Same.refl _⟩
    rintro σ' H4 ⟨rfl, s4⟩
    walk_at "W"
    refine k_lst rfl fun l5 H5 hl5 s5 e5 => ?_
    have S5 := s4.trans s5
    refine nep S5 e5 ?_
    cases xs with
    | nil =>
      walk_at "W"
      exact tup (Same.x S5) (st3.same S5) (S5 _ _ er3) fun v hv => by cases hv
    | cons v0 vr =>
      have er5 := S5 _ _ er3
      have st5 := st3.same S5
      obtain ⟨j, rfl⟩ := Int.eq_ofNat_of_zero_le a0
      have jl : j < (v0 :: vr).length := by have := Mx (by simp); omega
      have ej := List.getElem?_eq_getElem jl
      obtain ⟨x, ex, hx⟩ := (lx3.imp fun v x h => PrI.kps h (Kps.same S5)).get ej
      have okx := hl x (List.mem_of_getElem? ex)
      generalize (v0 :: vr)[j] = vj at *
      walk_at "W"
      refine w_ixL er5 (atI_nat ej) ?_
      refine ⟨p, c, vj, x, rfl, st5, hx, okx.1, okx.2.1, okx.2.2, fun u H6 x6 st6 hu => ?_⟩
      have er6 := x6 _ _ nr.1 er5
      walk_at "W"
      refine w_setL er6 (ixN_at jl) fun H7 x7 e7 => ?_
      walk_at "W"
      refine w_tupL e7 fun p8 H8 hp8 s8 e8 => ?_
      have k57 : KL H3 H7 := (KL.same S5).trans ((st5.kl x6 st6).trans (KL.sx er6 x7 e7))
      have k67 : KL H6 H7 := KL.sx er6 x7 e7
      have nrc : c ≠ r := Ne.symm nr.2
      have st7 : St4 H7 p c := by
        obtain ⟨ns', b1, b2, b3, g1, g2, g3⟩ := st6
        exact ⟨ns', b1, b2, b3, x7 _ _ (Ne.symm nr.1) g1, x7 _ _ nrc g2, g3⟩
      refine q _ H8 (fun b o n e => s8 _ _ (x7 _ _ (fun z => ?_) (x6 _ _ n (S5 _ _ (X3 _ _ n e))))) (st7.same s8) (.tup e8 fun v hv => ?_)
      · have := x1 _ _ n e
        rw [z, hr2] at this
        cases this
      · rcases List.mem_or_eq_of_mem_set hv with h | h
        · exact ((its3 v h).kl k57).kl (KL.same s8)
        · rw [h]
          exact (hu.kl k67).kl (KL.same s8)
/-! presses: a weight, and a thing that tells weights -/
def PAt (Z : Zs) (H : Hp) (v : V) : Option (Int × Option (List (Option (Int × Int)))) → Prop
  | none => NT H v ∨ (∃ p xs, v = .ref p ∧ H p = some (.tup xs) ∧ xs.length ≠ 2) ∨ ∃ p x y, v = .ref p ∧ H p = some (.tup [x, y]) ∧ Th Z.c_Root H x ∧ isI x = false
  | some o => ∃ p y, v = .ref p ∧ H p = some (.tup [.int o.1, y]) ∧ TAt Z H y o.2
theorem PAt.kl {Z : Zs} {H H' : Hp} {v : V} {o : Option (Int × Option (List (Option (Int × Int))))} (h : PAt Z H v o) (k : KL H H') : PAt Z H' v o := by
  cases o with
  | some x =>
    obtain ⟨p, y, e, h1, h2⟩ := h
    exact ⟨p, y, e, k.k.tup h1, h2.kl k⟩
  | none =>
    rcases h with h | ⟨p, xs, e, h, n⟩ | ⟨p, x, y, e, h, h1, n⟩
    · exact .inl (h.kl k)
    · exact .inr (.inl ⟨p, xs, e, k.k.tup h, n⟩)
    · exact .inr (.inr ⟨p, x, y, e, k.k.tup h, h1.kl k, n⟩)
def pOk (o : Option (Int × Option (List (Option (Int × Int))))) : Prop := ∀ x, o = some x → Bw 80 x.1 ∧ wtT x.2
def POk (Z : Zs) (H : Hp) (v : V) : Prop := ∃ o, PAt Z H v o ∧ pOk o
theorem POk.kl {Z : Zs} {H H' : Hp} {v : V} (h : POk Z H v) (k : KL H H') : POk Z H' v := by
  obtain ⟨o, h1, h2⟩ := h
  exact ⟨o, h1.kl k, h2⟩
def pressT (xs : List Bn) (b : Bn) (o : Option (Int × Option (List (Option (Int × Int))))) : Bool := match o with
  | none => false
  | some (_, none) => false
  | some (w, some l) => (decide (1 ≤ w) && (restOk (xs.length : Int) (-1) l && (decide (1 ≤ (l.length : Int)) && decide ((l.length : Int) ≤ 2)))) && (decide (sumX xs (prs l) 0 = vx b.d * w) && (decide (sumY xs (prs l) 0 = vy b.d * w) && decide (cmN (sumN xs (prs l) ⟨0, 0, 1⟩) (scN w (nuB b)) ≤ 0)))
theorem pressT_no {xs : List Bn} {b : Bn} {w : Int} {t : Option (List (Option (Int × Int)))} (h : (decide (1 ≤ w) && wT (xs.length : Int) 1 2 t) = false) : pressT xs b (some (w, t)) = false := by
  cases t with
  | none => rfl
  | some l =>
    unfold pressT
    unfold wT at h
    dsimp only at h ⊢
    revert h
    cases decide (1 ≤ w) <;> cases restOk ((xs.length : Nat) : Int) (-1) l <;> cases decide (1 ≤ (l.length : Int)) <;> cases decide ((l.length : Int) ≤ 2) <;> simp
theorem press_eq {xs : List Bn} {b : Bn} {w : Int} {l : List (Option (Int × Int))} (h1 : 1 ≤ w) (h : wT (xs.length : Int) 1 2 (some l) = true) : pressT xs b (some (w, some l)) = (decide (sumX xs (prs l) 0 = vx b.d * w) && (decide (sumY xs (prs l) 0 = vy b.d * w) && decide (cmN (sumN xs (prs l) ⟨0, 0, 1⟩) (scN w (nuB b)) ≤ 0))) := by
  unfold wT at h
  simp only [Bool.and_eq_true, decide_eq_true_iff] at h
  unfold pressT
  simp only [decide_eq_true h1, h.2, decide_eq_true h.1.1, decide_eq_true h.1.2, Bool.true_and]
abbrev s_check_bound : Stmt := top 18
theorem sc_check_bound : FnScope ["bound"] ["bound"] (defScope s_check_bound) := ⟨rfl, rfl, rfl, by decide +kernel, rfl, by decide +kernel, by decide +kernel⟩

def sp_check_bound (Z : Zs) : Sp := fun vs H Q E =>
  ∃ v x, vs = [v] ∧ BnAt Z.c_Root H v x ∧ x.d < 8 ∧ ∀ H', Same H H' → Q .non H'
theorem ok_check_bound (T : Txt Z mg) (h_is_bound : Has P w Z.K mg base "is_bound" 3 ["thing"] (sp_is_bound Z)) (h_BadBounds : HasX P w Z.K mg base "BadBounds" Z.c_BadBounds 1 ["self", "index"] (sp_BadBounds_init Z)) (D : AtF Z.K mg "check_bound" "check_bound" s_check_bound ["bound"]) : Has P w Z.K mg base "check_bound" 4 ["bound"] (sp_check_bound Z) := by
  refine D.ok sc_check_bound (fun vs H Q E h => ?_) (fun cdv A outer s H vs Q E hr h => ?_)
  · obtain ⟨v, x, rfl, _⟩ := h
    rfl
  · refine ⟨_, (pss_one (ps_if (pt_not (pt_val (pe_h (E := ED E) h_is_bound hr (paW (takes_of rfl rfl rfl rfl)) (pa_cons (pv 0) pa_nil)))) (pss_one (ps_raise rfl (takes_of rfl rfl rfl rfl) (pm_h T.x_BadBounds h_BadBounds hr (pa_cons (pe_un un_neg pe_int) pa_nil)))) pss_nil)), ?_⟩
    try simp only [cxOf]
    obtain ⟨v, x, rfl, hb, d8, q⟩ := h
    walk_at "W"
    refine ⟨v, rfl, .inr ⟨x, hb, d8, fun H1 s1 => ?_⟩⟩
    walk_at "W"
    exact q H1 s1
/-- a press's number beside the bound's -/
theorem press_sg {x : Bn} {w : Int} {n : Nu} {t r b u s a : Int} (hx : rw2 x) (ww : Bw 80 w) (on : Nu.ok 990 990 n) (g1 : Sm t r b) (eT : Lq pF qF t r * n.b = Lv n * b) (g2 : Sm u s a) (eU : Lq pF qF u s * x.b = Lv (nuB x) * w * a) : (!decide (sgn (minus.t u s a t r b) (minus.r u s a t r b) < 0)) = decide (cmN n (scN w (nuB x)) ≤ 0) := by
  have os : Nu.ok 990 990 (scN w (nuB x)) := (scN_okG hx.2 ww).mono (by decide) (by decide)
  have wr : Bw 3000 (minus.r u s a t r b) := by
    show Bw 3000 (s * b - r * a)
    exact ((g2.hr.mul g1.hb).sub (g1.hr.mul g2.hb)).mono (by decide)
  have e1 : sgn (minus.t u s a t r b) (minus.r u s a t r b) < 0 ↔ Lq pF qF u s * b < Lq pF qF t r * a := by
    rw [FF.neg wr, show Lq pF qF (minus.t u s a t r b) (minus.r u s a t r b) = Lq pF qF u s * b - Lq pF qF t r * a by unfold Lq minus; dsimp only; grind]
    omega
  have e2 : (cmN n (scN w (nuB x)) ≤ 0) ↔ ¬ (w * Lv (nuB x) * n.b < Lv n * x.b) := by
    have := cm_P FF on os
    rw [show Lq pF qF (scN w (nuB x)).t (scN w (nuB x)).r = w * Lv (nuB x) by unfold Lv Lq scN; grind, show (scN w (nuB x)).b = x.b from rfl, show Lq pF qF n.t n.r = Lv n from rfl] at this
    rw [← this]
    omega
  have e3 : Lq pF qF u s * b < Lq pF qF t r * a ↔ w * Lv (nuB x) * n.b < Lv n * x.b := by
    have k1 := lt_mul (a := Lq pF qF u s * b) (b := Lq pF qF t r * a) (Int.mul_pos hx.2.1 on.1)
    have k2 := lt_mul (a := w * Lv (nuB x) * n.b) (b := Lv n * x.b) (Int.mul_pos g2.pos g1.pos)
    rw [← k1, ← k2, show (nuB x).b = x.b from rfl]
    rw [show Lq pF qF u s * b * (x.b * n.b) = Lq pF qF u s * x.b * (b * n.b) by grind, eU, show Lq pF qF t r * a * (x.b * n.b) = Lq pF qF t r * n.b * (a * x.b) by grind, eT]
    rw [show Lv (nuB x) * w * a * (b * n.b) = w * Lv (nuB x) * n.b * (a * b) by grind, show Lv n * b * (a * x.b) = Lv n * x.b * (a * b) by grind]
  rw [← decide_not]
  exact decide_eq_decide.mpr (by rw [e1, e3, e2])
abbrev s_is_press : Stmt := top 21
theorem sc_is_press : FnScope ["bounds", "bound", "thing", "weight", "rest", "x", "y", "total", "d", "number"] ["bounds", "bound", "thing"] (defScope s_is_press) := ⟨rfl, rfl, rfl, by decide +kernel, rfl, by decide +kernel, by decide +kernel⟩

def sp_is_press (Z : Zs) : Sp := fun vs H Q E =>
  ∃ (a : Addr) (vs' : List V) (xs : List Bn) (bv v : V) (bx : Bn) (o : Option (Int × Option (List (Option (Int × Int))))), vs = [.ref a, bv, v] ∧ H a = some (.lst vs') ∧ vs'.length ≤ 400 ∧ BnsAt Z.c_Root H vs' (xs.map lowN) ∧ (∀ x ∈ xs, rw2 x) ∧ BnAt Z.c_Root H bv (lowN bx) ∧ rw2 bx ∧ PAt Z H v o ∧ pOk o ∧ ∀ H', Same H H' → Q (.bl (pressT xs bx o)) H'
theorem ok_is_press (T : Txt Z mg) (h_as_root : Has P w Z.K mg base "as_root" 5 ["number"] (sp_as_root Z)) (h_rest_sum : Has P w Z.K mg base "rest_sum" 8 ["bounds", "rest"] (sp_rest_sum Z)) (h_is_rest : Has P w Z.K mg base "is_rest" 2 ["thing", "many"] (sp_is_rest Z)) (h_is_integral : Has P w Z.K mg base "is_integral" 1 ["thing"] (sp_is_integral Z)) (h_check_bound : Has P w Z.K mg base "check_bound" 4 ["bound"] (sp_check_bound Z)) (h_check_bounds : Has P w Z.K mg base "check_bounds" 4 ["bounds"] (sp_check_bounds Z)) (h_Root_mul : HasM P w Z.K mg base Z.c_Root "__mul__" 6 ["self", "other"] (sp_Root_mul Z)) (h_Root_rmul : HasM P w Z.K mg base Z.c_Root "__rmul__" 7 ["self", "other"] (sp_Root_rmul Z)) (h_Root_less : HasM P w Z.K mg base Z.c_Root "less" 6 ["self", "number"] (sp_Root_less Z)) (D : AtF Z.K mg "is_press" "is_press" s_is_press ["bounds", "bound", "thing"]) : Has P w Z.K mg base "is_press" 9 ["bounds", "bound", "thing"] (sp_is_press Z) := by
  refine D.ok sc_is_press (fun vs H Q E h => ?_) (fun cdv A outer s H vs Q E hr h => ?_)
  · obtain ⟨a, vs', xs, bv, v, bx, o, rfl, _⟩ := h
    rfl
  · refine ⟨_, (pss_cons (ps_expr (pe_h (E := ED E) h_check_bounds hr (paW (takes_of rfl rfl rfl rfl)) (pa_cons (pv 0) pa_nil)))
      (pss_cons (ps_expr (pe_h (E := ED E) h_check_bound hr (paW (takes_of rfl rfl rfl rfl)) (pa_cons (pv 1) pa_nil)))
      (pss_cons (ps_if (PW.pt (pw_or (pt_not (pt_val (pe_callB call_isi rfl T.n_isinstance (by decide +kernel) (pa_cons (pv 2) (pa_cons (pe_bltn (v := .ty "tuple") rfl T.n_tuple (by decide +kernel) rfl) pa_nil))))) (pw_or1 (pt_cmpR op_ne (pe_callB cn_len rfl T.n_len (by decide +kernel) (pa_cons (pv 2) pa_nil)) pe_int (nomark _))))) (pss_one (ps_ret pe_bl)) pss_nil)
      (pss_cons (ps_asg (pv 2) (pg_tup rfl (pgs_cons (pg_name (i := 3) sc_is_press.nd rfl (Or.inl rfl)) (pgs_cons (pg_name (i := 4) sc_is_press.nd rfl (Or.inl rfl)) pgs_nil))))
      (pss_cons (ps_if (PW.pt (pw_or (pt_not (pt_val (pe_h (E := ED E) h_is_integral hr (paW (takes_of rfl rfl rfl rfl)) (pa_cons (pv 3) pa_nil)))) (pw_or (pt_cmpR op_lt (pv 3) pe_int (nomark _)) (pw_or (pt_not (pt_val (pe_h (E := ED E) h_is_rest hr (paW (takes_of rfl rfl rfl rfl)) (pa_cons (pv 4) (pa_cons (pe_callB cn_len rfl T.n_len (by decide +kernel) (pa_cons (pv 0) pa_nil)) pa_nil))))) (pw_or1 (pt_not (pt_chain op_le op_le pe_int (pe_callB cn_len rfl T.n_len (by decide +kernel) (pa_cons (pv 4) pa_nil)) pe_int))))))) (pss_one (ps_ret pe_bl)) pss_nil)
      (pss_cons (ps_asg (pe_h (E := ED E) h_rest_sum hr (paW (takes_of rfl rfl rfl rfl)) (pa_cons (pv 0) (pa_cons (pv 4) pa_nil))) (pg_tup rfl (pgs_cons (pg_name (i := 5) sc_is_press.nd rfl (Or.inl rfl)) (pgs_cons (pg_name (i := 6) sc_is_press.nd rfl (Or.inl rfl)) (pgs_cons (pg_name (i := 7) sc_is_press.nd rfl (Or.inl rfl)) pgs_nil)))))
      (pss_cons (ps_asg (pv 1) (pg_tup rfl (pgs_cons (pg_name (i := 8) sc_is_press.nd rfl (Or.inl rfl)) (pgs_cons (pg_name (i := 9) sc_is_press.nd rfl (Or.inl rfl)) pgs_nil))))
      (pss_cons (ps_if (PW.pt (pw_or (pt_cmpR op_ne (pv 5) (pe_op op_mulS (pe_ix ix_seq (pe_ix ix_seq (pe_glob (v := .ref Z.c_VECTORS) rfl T.g_VECTORS rfl) (pv 8) (fun _ _ => rfl)) pe_int (fun _ _ => rfl)) (pv 3)) (nomark _)) (pw_or1 (pt_cmpR op_ne (pv 6) (pe_op op_mulS (pe_ix ix_seq (pe_ix ix_seq (pe_glob (v := .ref Z.c_VECTORS) rfl T.g_VECTORS rfl) (pv 8) (fun _ _ => rfl)) pe_int (fun _ _ => rfl)) (pv 3)) (nomark _))))) (pss_one (ps_ret pe_bl)) pss_nil)
      (pss_one (ps_ret (pe_not (pe_hm (E := ED E) h_Root_less T.c_Root hr (paW (takes_of rfl rfl rfl rfl)) (pe_op (op_mulB T.ow h_Root_mul h_Root_rmul hr passL) (pe_h (E := ED E) h_as_root hr (paW (takes_of rfl rfl rfl rfl)) (pa_cons (pv 9) pa_nil)) (pv 3)) (pa_cons (pv 7) pa_nil))))))))))))), ?_⟩
    try simp only [cxOf]
    obtain ⟨a, vs', xs, bv, v, bx, o, rfl, ea, l4, hb, okx, hbx, okb, hP, hw, q⟩ := h
    have lx : vs'.length = xs.length := by rw [hb.1, List.length_map]
    obtain ⟨cs, hcs, hcv⟩ := vec_at T
    walk_at "W"
    refine ⟨_, rfl, .inr ⟨xs.map lowN, ⟨a, vs', rfl, .inl ea, l4, hb, fun x hx => ?_⟩, fun H1 s1 => ?_⟩⟩
    · obtain ⟨y, hy, rfl⟩ := List.mem_map.mp hx
      obtain ⟨g1, g2, g3, g4, g5⟩ := lowN_sz (okx y hy)
      exact ⟨g1, g2, g3.mono (by decide), g4.mono (by decide), g5.mono (by decide)⟩
    walk_at "W"
    refine ⟨bv, lowN bx, rfl, hbx.same s1, okb.1, fun H2 s2 => ?_⟩
    have S2 := s1.trans s2
    have ea2 := S2 _ _ ea
    have hP2 := hP.kl (KL.same S2)
    walk_at "W"
    cases o with
    | none =>
      have fin : Q (.bl false) H2 := q H2 S2
      rcases hP2 with nt | ⟨py, zs, rfl, ey, nl⟩ | ⟨py, x, z, rfl, ey, tx, ni⟩
      · obtain ⟨pl, nt⟩ := NT.plain nt
        obtain ⟨ty, hty, _, _, k⟩ := pl.ty (K := Z.K)
        rw [nt] at k
        refine w_isi hty k ?_
        walk_at "W"
        exact fin
      · obtain ⟨ty, hty, _, _, k⟩ := (Plain.tup py _ ey).ty (K := Z.K)
        rw [isTu_tup ey] at k
        refine w_isi hty k ?_
        walk_at "W"
        refine w_lenT (SqT.of ey) ?_
        walk_at "W"
        rw [show decide (V.int ((zs.length : Nat) : Int) = V.int 2) = false from (dec_len (k := 2)).trans (decide_eq_false nl)]
        walk_at "W"
        exact fin
      · obtain ⟨ty, hty, _, _, k⟩ := (Plain.tup py _ ey).ty (K := Z.K)
        rw [isTu_tup ey] at k
        refine w_isi hty k ?_
        walk_at "W"
        refine w_lenT (SqT.of ey) ?_
        walk_at "W"
        refine k_tupl2 ey rfl rfl ?_
        walk_at "W"
        refine ⟨x, rfl, tx, ?_⟩
        rw [ni]
        walk_at "W"
        exact fin
    | some o =>
    obtain ⟨w, t⟩ := o
    obtain ⟨ww, hwt⟩ := hw _ rfl
    dsimp only at ww hwt
    obtain ⟨pv, yv, rfl, epv, hT⟩ := hP2
    dsimp only at epv hT
    obtain ⟨ty, hty, _, _, k⟩ := (Plain.tup pv _ epv).ty (K := Z.K)
    rw [isTu_tup epv] at k
    refine w_isi hty k ?_
    walk_at "W"
    refine w_lenT (SqT.of epv) ?_
    walk_at "W"
    refine k_tupl2 epv rfl rfl ?_
    walk_at "W"
    refine ⟨_, rfl, (Plain.int _).thI, ?_⟩
    walk_at "W"
    have no : (decide (1 ≤ w) && wT (xs.length : Int) 1 2 t) = false → ∀ {H3 : Hp}, Same H2 H3 → Q (.bl false) H3 := fun h {H3} s3 => by
      have := q H3 (S2.trans s3)
      rwa [pressT_no h] at this
    by_cases w1 : w < 1
    case pos =>
      rw [decide_eq_true w1]
      walk_at "W"
      exact no (by rw [decide_eq_false (show ¬ 1 ≤ w by omega)]; rfl) (Same.refl _)
    rw [decide_eq_false w1]
    walk_at "W"
    refine w_lenL (SqL.of ea2) ?_
    walk_at "W"
    refine ⟨yv, t, _, rfl, hT, fun H3 s3 => ?_⟩
    have S3 := S2.trans s3
    have hT3 := hT.kl (KL.same s3)
    cases hr' : restT (vs'.length : Nat) t with
    | false =>
      walk_at "W"
      refine no ?_ s3
      cases t with
      | none => simp [wT]
      | some l =>
        have e : restOk ((xs.length : Nat) : Int) (-1) l = false := by rw [← lx]; exact hr'
        unfold wT
        simp only [e, Bool.and_false]
    | true =>
    cases t with
    | none => cases hr'
    | some l =>
    have hro : restOk ((xs.length : Nat) : Int) (-1) l = true := by rw [← lx]; exact hr'
    obtain ⟨el, hpr⟩ := restOk_spec hro
    obtain ⟨p, zs, rfl, ep, ls⟩ := hT3
    have ll : zs.length = l.length := ls.1
    walk_at "W"
    refine w_lenT (SqT.of ep) ?_
    walk_at "W"
    by_cases c1 : 1 ≤ (zs.length : Int)
    case neg =>
      rw [decide_eq_false c1]
      walk_at "W"
      exact no (by unfold wT; simp only [← ll, decide_eq_false c1]; simp) s3
    rw [decide_eq_true c1]
    walk_at "W"
    by_cases c2 : (zs.length : Int) ≤ 2
    case neg =>
      rw [decide_eq_false c2]
      walk_at "W"
      exact no (by unfold wT; simp only [← ll, decide_eq_false c2]; simp) s3
    rw [decide_eq_true c2]
    walk_at "W"
    have hwT : wT (xs.length : Int) 1 2 (some l) = true := by unfold wT; simp only [← ll, decide_eq_true c1, decide_eq_true c2, hro]; rfl
    have pl : (prs l).length = l.length := by
      have := congrArg List.length el
      rw [List.length_map] at this
      exact this.symm
    have lsP : LsAt PrI H3 zs (prs l) := ⟨by rw [pl]; exact ll, fun i y x h1 h2 => by
      have e : l[i]? = some (some x) := by rw [el, List.getElem?_map, h2]; rfl
      exact ls.2 i y _ h1 e⟩
    have hl : ∀ x ∈ prs l, 0 ≤ x.1 ∧ x.1 < xs.length ∧ Bw 80 x.2 := fun x hx => by
      obtain ⟨g1, g2, g3⟩ := hpr x hx
      refine ⟨by omega, g2, hwt l rfl x ?_⟩
      obtain ⟨y, hy, e⟩ := List.mem_filterMap.mp hx
      cases e
      exact hy
    refine ⟨a, p, vs', xs, zs, prs l, rfl, S3 _ _ ea, hb.same S3, okx, ep, lsP, hl, by omega, fun u tv H4 s4 e4 hrp n0 => ?_⟩
    have S4 := S3.trans s4
    refine k_tup3w e4 rfl rfl ?_
    obtain ⟨tt, tr, tb, g1, g2, g3, g4, g5, g6⟩ := hrp
    have on := sumN_ok okx (l := prs l) (acc := ⟨0, 0, 1⟩) (a := 1) (b := 1) hl (by decide) ⟨by decide, by unfold Bw; decide, by unfold Bw; decide, by unfold Bw; decide⟩
    have res := press_eq (b := bx) (show 1 ≤ w by omega) hwT
    obtain ⟨pb, yb, rfl, epb, nyb, smb⟩ := hbx.same S4
    obtain ⟨qa, hqa, sqa⟩ := hcv bx.d okb.1
    obtain ⟨v1, v2⟩ := v_bw okb.1
    walk_at "W"
    refine k_tupl2 epb rfl rfl ?_
    walk_at "W"
    refine w_ixS (hcs _) (atI_nat hqa) ?_
    walk_at "W"
    refine w_ixS (sqa _) rfl ?_
    walk_at "W"
    refine w_I (bwm v1 ww (by decide)) ?_
    walk_at "W"
    have q3 : ∀ {H5 : Hp}, Same H4 H5 → Q (.bl (decide (sumX xs (prs l) 0 = vx bx.d * w) && (decide (sumY xs (prs l) 0 = vy bx.d * w) && decide (cmN (sumN xs (prs l) ⟨0, 0, 1⟩) (scN w (nuB bx)) ≤ 0)))) H5 := fun {H5} s => by
      have := q H5 (S4.trans s)
      rwa [res] at this
    by_cases d1 : sumX xs (prs l) 0 = vx bx.d * w
    case neg =>
      rw [decide_eq_false (fun z => d1 (by injection z))]
      walk_at "W"
      have := q3 (Same.refl H4)
      rwa [decide_eq_false d1] at this
    rw [decide_eq_true (congrArg V.int d1)]
    walk_at "W"
    refine w_ixS (hcs _) (atI_nat hqa) ?_
    walk_at "W"
    refine w_ixS (sqa _) rfl ?_
    walk_at "W"
    refine w_I (bwm v2 ww (by decide)) ?_
    walk_at "W"
    by_cases d2 : sumY xs (prs l) 0 = vy bx.d * w
    case neg =>
      rw [decide_eq_false (fun z => d2 (by injection z))]
      walk_at "W"
      have := q3 (Same.refl H4)
      rwa [decide_eq_true d1, decide_eq_false d2] at this
    rw [decide_eq_true (congrArg V.int d2)]
    walk_at "W"
    refine ⟨yb, _, _, _, rfl, nyb, fun w5 H5 s5 h5 => ?_⟩
    walk_at "W"
    refine k_ownB rfl rfl (.inl h5) (.inr ⟨_, rfl, rfl, rfl, rfl⟩) (.inl h5) smb (sm_int (ww.mono (by decide))) fun w6 H6 s6 h6 => ?_
    obtain ⟨r1, r2, r3, r4, r5⟩ := rp_prodR okb ww
    have h6' := h6
    obtain ⟨ua, udx, rfl, eua⟩ := h6'
    refine k_meth eua (rf_none (by decide +kernel) (by decide +kernel) (by decide +kernel)) ?_
    walk_at "W"
    have g16 := (g1.same s5).same s6
    refine ⟨_, tv, _, _, _, rfl, h6, r1, (show NumAt Z.c_Root H6 tv tt tr tb from .inl g16).th, .inr ⟨tt, tr, tb, .inl g16, g2, fun H7 s7 => ?_⟩⟩
    walk_at "W"
    have := q3 (s5.trans (s6.trans s7))
    rw [decide_eq_true d1, decide_eq_true d2, ← press_sg okb ww (on.mono (by omega) (by omega)) g2 g6 r1 r5] at this
    exact this
abbrev s__law_are_press : Stmt := top 47
theorem sc__law_are_press : FnScope ["rows", "bound", "thing", "x", "y", "total", "first", "last"] ["rows", "bound", "thing"] (defScope s__law_are_press) := ⟨rfl, rfl, rfl, by decide +kernel, rfl, by decide +kernel, by decide +kernel⟩

def sp__law_are_press (Z : Zs) : Sp := fun vs H Q E =>
  ∃ (a : Addr) (ws : List V) (xs : List Bn) (bv v : V) (bx : Bn) (o : Option (Int × Option (List (Option (Int × Int))))), vs = [.ref a, bv, v] ∧ H a = some (.lst ws) ∧ LsAt RwAt H ws xs ∧ (∀ x ∈ xs, rw2 x) ∧ RwAt H bv bx ∧ rw2 bx ∧ PAt Z H v o ∧ pOk o ∧ ∀ H', Same H H' → Q (.bl (pressT xs bx o)) H'
theorem ok__law_are_press (T : Txt Z mg) (h__law_compare : Has P w Z.K mg base "_law_compare" 2 ["one", "other"] (sp__law_compare Z)) (h__law_scaled : Has P w Z.K mg base "_law_scaled" 1 ["part", "one"] (sp__law_scaled Z)) (h__law_vector : Has P w Z.K mg base "_law_vector" 1 ["way"] (sp__law_vector Z)) (h__law_weighed : Has P w Z.K mg base "_law_weighed" 2 ["rows", "weights"] (sp__law_weighed Z)) (h__law_are_weights : Has P w Z.K mg base "_law_are_weights" 2 ["rows", "thing", "least", "most"] (sp__law_are_weights Z)) (h__law_is_integer : Has P w Z.K mg base "_law_is_integer" 1 ["thing"] (sp__law_is_integer Z)) (D : AtF Z.K mg "_law_are_press" "_law_are_press" s__law_are_press ["rows", "bound", "thing"]) : Has P w Z.K mg base "_law_are_press" 3 ["rows", "bound", "thing"] (sp__law_are_press Z) := by
  refine D.ok sc__law_are_press (fun vs H Q E h => ?_) (fun cdv A outer s H vs Q E hr h => ?_)
  · obtain ⟨a, ws, xs, bv, v, bx, o, rfl, _⟩ := h
    rfl
  · refine ⟨_, (pss_cons (ps_if (PW.pt (pw_or (pt_not (pt_val (pe_callB call_isi rfl T.n_isinstance (by decide +kernel) (pa_cons (pv 2) (pa_cons (pe_bltn (v := .ty "tuple") rfl T.n_tuple (by decide +kernel) rfl) pa_nil))))) (pw_or (pt_cmpR op_ne (pe_callB cn_len rfl T.n_len (by decide +kernel) (pa_cons (pv 2) pa_nil)) pe_int (nomark _)) (pw_or (pt_not (pt_val (pe_h (E := ED E) h__law_is_integer hr (paW (takes_of rfl rfl rfl rfl)) (pa_cons (pe_ix ix_seq (pv 2) pe_int (fun _ _ => rfl)) pa_nil)))) (pw_or1 (pt_cmpR op_lt (pe_ix ix_seq (pv 2) pe_int (fun _ _ => rfl)) pe_int (nomark _))))))) (pss_one (ps_ret pe_bl)) pss_nil)
      (pss_cons (ps_if (pt_not (pt_val (pe_h (E := ED E) h__law_are_weights hr (paW (takes_of rfl rfl rfl rfl)) (pa_cons (pv 0) (pa_cons (pe_ix ix_seq (pv 2) pe_int (fun _ _ => rfl)) (pa_cons pe_int (pa_cons pe_int pa_nil))))))) (pss_one (ps_ret pe_bl)) pss_nil)
      (pss_cons (ps_asg (pe_h (E := ED E) h__law_weighed hr (paW (takes_of rfl rfl rfl rfl)) (pa_cons (pv 0) (pa_cons (pe_ix ix_seq (pv 2) pe_int (fun _ _ => rfl)) pa_nil))) (pg_tup rfl (pgs_cons (pg_name (i := 3) sc__law_are_press.nd rfl (Or.inl rfl)) (pgs_cons (pg_name (i := 4) sc__law_are_press.nd rfl (Or.inl rfl)) (pgs_cons (pg_name (i := 5) sc__law_are_press.nd rfl (Or.inl rfl)) pgs_nil)))))
      (pss_cons (ps_asg (pe_h (E := ED E) h__law_vector hr (paW (takes_of rfl rfl rfl rfl)) (pa_cons (pe_ix ix_seq (pv 1) pe_int (fun _ _ => rfl)) pa_nil)) (pg_tup rfl (pgs_cons (pg_name (i := 6) sc__law_are_press.nd rfl (Or.inl rfl)) (pgs_cons (pg_name (i := 7) sc__law_are_press.nd rfl (Or.inl rfl)) pgs_nil))))
      (pss_cons (ps_if (PW.pt (pw_or (pt_cmpR op_ne (pv 3) (pe_op op_mulS (pv 6) (pe_ix ix_seq (pv 2) pe_int (fun _ _ => rfl))) (nomark _)) (pw_or1 (pt_cmpR op_ne (pv 4) (pe_op op_mulS (pv 7) (pe_ix ix_seq (pv 2) pe_int (fun _ _ => rfl))) (nomark _))))) (pss_one (ps_ret pe_bl)) pss_nil)
      (pss_one (ps_ret (pe_cmpR op_le (pe_h (E := ED E) h__law_compare hr (paW (takes_of rfl rfl rfl rfl)) (pa_cons (pv 5) (pa_cons (pe_h (E := ED E) h__law_scaled hr (paW (takes_of rfl rfl rfl rfl)) (pa_cons (pe_ix ix_seq (pv 2) pe_int (fun _ _ => rfl)) (pa_cons (pe_ix ix_seq (pv 1) pe_int (fun _ _ => rfl)) pa_nil))) pa_nil))) pe_int (nomark _))))))))), ?_⟩
    try simp only [cxOf]
    obtain ⟨a, ws, xs, bv, v, bx, o, rfl, ea, lr, okx, hbx, okb, hP, hw, q⟩ := h
    have lx : ws.length = xs.length := lr.1
    walk_at "W"
    cases o with
    | none =>
      have fin : Q (.bl false) H := q H (Same.refl _)
      rcases hP with nt | ⟨py, zs, rfl, ey, nl⟩ | ⟨py, x, z, rfl, ey, tx, ni⟩
      · obtain ⟨pl, nt⟩ := NT.plain nt
        obtain ⟨ty, hty, _, _, k⟩ := pl.ty (K := Z.K)
        rw [nt] at k
        refine w_isi hty k ?_
        walk_at "W"
        exact fin
      · obtain ⟨ty, hty, _, _, k⟩ := (Plain.tup py _ ey).ty (K := Z.K)
        rw [isTu_tup ey] at k
        refine w_isi hty k ?_
        walk_at "W"
        refine w_lenT (SqT.of ey) ?_
        walk_at "W"
        rw [show decide (V.int ((zs.length : Nat) : Int) = V.int 2) = false from (dec_len (k := 2)).trans (decide_eq_false nl)]
        walk_at "W"
        exact fin
      · obtain ⟨ty, hty, _, _, k⟩ := (Plain.tup py _ ey).ty (K := Z.K)
        rw [isTu_tup ey] at k
        refine w_isi hty k ?_
        walk_at "W"
        refine w_lenT (SqT.of ey) ?_
        walk_at "W"
        try refine w_ixT ey rfl ?_
        refine ⟨x, rfl, tx, ?_⟩
        rw [ni]
        walk_at "W"
        exact fin
    | some o =>
    obtain ⟨w, t⟩ := o
    obtain ⟨ww, hwt⟩ := hw _ rfl
    dsimp only at ww hwt
    obtain ⟨pv, yv, rfl, epv, hT⟩ := hP
    dsimp only at epv hT
    obtain ⟨ty, hty, _, _, k⟩ := (Plain.tup pv _ epv).ty (K := Z.K)
    rw [isTu_tup epv] at k
    refine w_isi hty k ?_
    walk_at "W"
    refine w_lenT (SqT.of epv) ?_
    walk_at "W"
    try refine w_ixT epv rfl ?_
    refine ⟨_, rfl, .int _, ?_⟩
    walk_at "W"
    try refine w_ixT epv rfl ?_
    walk_at "W"
    have no : (decide (1 ≤ w) && wT (xs.length : Int) 1 2 t) = false → ∀ {H3 : Hp}, Same H H3 → Q (.bl false) H3 := fun h {H3} s3 => by
      have := q H3 s3
      rwa [pressT_no h] at this
    by_cases w1 : w < 1
    case pos =>
      rw [decide_eq_true w1]
      walk_at "W"
      exact no (by rw [decide_eq_false (show ¬ 1 ≤ w by omega)]; rfl) (Same.refl _)
    rw [decide_eq_false w1]
    walk_at "W"
    try refine w_ixT epv rfl ?_
    refine ⟨a, ws, yv, t, _, _, rfl, ea, hT, fun H3 S3 => ?_⟩
    have epv3 := S3 _ _ epv
    cases hr' : wT (ws.length : Nat) 1 2 t with
    | false =>
      walk_at "W"
      refine no ?_ S3
      rw [lx] at hr'
      rw [hr']
      simp
    | true =>
    cases t with
    | none => cases hr'
    | some l =>
    have hwT : wT (xs.length : Int) 1 2 (some l) = true := by rw [← lx]; exact hr'
    have hr2 := hwT
    unfold wT at hr2
    simp only [Bool.and_eq_true, decide_eq_true_iff] at hr2
    obtain ⟨⟨c1, c2⟩, hro⟩ := hr2
    obtain ⟨el, hpr⟩ := restOk_spec hro
    obtain ⟨p, zs, rfl, ep, ls⟩ := hT.kl (KL.same S3)
    have ll : zs.length = l.length := ls.1
    walk_at "W"
    try refine w_ixT epv3 rfl ?_
    have pl : (prs l).length = l.length := by
      have := congrArg List.length el
      rw [List.length_map] at this
      exact this.symm
    have lsP : LsAt PrI H3 zs (prs l) := ⟨by rw [pl]; exact ll, fun i y x h1 h2 => by
      have e : l[i]? = some (some x) := by rw [el, List.getElem?_map, h2]; rfl
      exact ls.2 i y _ h1 e⟩
    have hl : ∀ x ∈ prs l, 0 ≤ x.1 ∧ x.1 < xs.length ∧ Bw 80 x.2 := fun x hx => by
      obtain ⟨g1, g2, g3⟩ := hpr x hx
      refine ⟨by omega, g2, hwt l rfl x ?_⟩
      obtain ⟨y, hy, e⟩ := List.mem_filterMap.mp hx
      cases e
      exact hy
    refine ⟨a, p, ws, xs, zs, prs l, rfl, S3 _ _ ea, lr.imp fun v x r => r.kps (Kps.same S3), okx, ep, lsP, hl, by omega, fun u tv H4 s4 e4 hn => ?_⟩
    have S4 := S3.trans s4
    refine k_tup3w e4 rfl rfl ?_
    have on := sumN_ok okx (l := prs l) (acc := ⟨0, 0, 1⟩) (a := 1) (b := 1) hl (by decide) ⟨by decide, by unfold Bw; decide, by unfold Bw; decide, by unfold Bw; decide⟩
    have res := press_eq (b := bx) (show 1 ≤ w by omega) hwT
    have epv4 := s4 _ _ epv3
    obtain ⟨pb, yb, rfl, epb, nyb⟩ := hbx.kps (Kps.same S4)
    obtain ⟨v1, v2⟩ := v_bw okb.1
    walk_at "W"
    try refine w_ixT epb rfl ?_
    refine ⟨bx.d, rfl, okb.1, fun u5 H5 s5 e5 => ?_⟩
    have epv5 := s5 _ _ epv4
    have epb5 := s5 _ _ epb
    walk_at "W"
    refine k_tup2S (SqT.of e5) rfl rfl ?_
    walk_at "W"
    refine w_I (bwm v1 ww (by decide)) ?_
    walk_at "W"
    have q3 : ∀ {H6 : Hp}, Same H5 H6 → Q (.bl (decide (sumX xs (prs l) 0 = vx bx.d * w) && (decide (sumY xs (prs l) 0 = vy bx.d * w) && decide (cmN (sumN xs (prs l) ⟨0, 0, 1⟩) (scN w (nuB bx)) ≤ 0)))) H6 := fun {H6} s => by
      have := q H6 (S4.trans (s5.trans s))
      rwa [res] at this
    by_cases d1 : sumX xs (prs l) 0 = vx bx.d * w
    case neg =>
      rw [decide_eq_false (fun z => d1 (by injection z))]
      walk_at "W"
      have := q3 (Same.refl H5)
      rwa [decide_eq_false d1] at this
    rw [decide_eq_true (congrArg V.int d1)]
    walk_at "W"
    refine w_I (bwm v2 ww (by decide)) ?_
    walk_at "W"
    by_cases d2 : sumY xs (prs l) 0 = vy bx.d * w
    case neg =>
      rw [decide_eq_false (fun z => d2 (by injection z))]
      walk_at "W"
      have := q3 (Same.refl H5)
      rwa [decide_eq_true d1, decide_eq_false d2] at this
    rw [decide_eq_true (congrArg V.int d2)]
    walk_at "W"
    refine ⟨w, _, nuB bx, rfl, nyb.same s5, okb.2.mono (by decide) (by decide), ww.mono (by decide), fun u6 H6 s6 h6 => ?_⟩
    walk_at "W"
    refine ⟨_, _, _, _, rfl, (hn.same s5).same s6, h6, on.mono (by omega) (by omega), (scN_okG okb.2 ww).mono (by decide) (by decide), fun H7 s7 => ?_⟩
    walk_at "W"
    have := q3 (s6.trans s7)
    rw [decide_eq_true d1, decide_eq_true d2] at this
    exact this
theorem cutK2 {ws : List V} : cutV ws none (some 2) = ws.take 2 := by
  unfold cutV
  rw [HT.sIx_none, show (some (2 : Int)) = some ((2 : Nat) : Int) from rfl, HT.sIx_nat, List.drop_zero, Nat.sub_zero, ← List.take_eq_take_min]
/-- a press that was found: a weight, and pairs -/
def FdV (H : Hp) (v : V) : Prop := ∃ (p : Addr) (w : Int) (wv : V), v = .ref p ∧ H p = some (.tup [.int w, wv]) ∧ Bw 2 w ∧ WtV H wv
theorem FdV.kps {H H' : Hp} {v : V} (h : FdV H v) (s : Kps H H') : FdV H' v := by
  obtain ⟨p, w, wv, e, h1, h2, h3⟩ := h
  exact ⟨p, w, wv, e, s.tup h1, h2, h3.kps s⟩
theorem FdV.t {Z : Zs} {H : Hp} {v : V} (h : FdV H v) : POk Z H v := by
  obtain ⟨p, w, wv, rfl, h1, h2, h3⟩ := h
  obtain ⟨t, h4, h5⟩ := h3.t (Z := Z)
  exact ⟨some (w, t), ⟨p, wv, rfl, h1, h4⟩, fun x e => by cases e; exact ⟨h2.mono (by decide), h5⟩⟩
/-- ways that stand in a list -/
def WyL (sm : Addr) (H : Hp) (v : V) : Prop := ∃ (p : Addr) (ts tl : List V) (l : List (Int × Int)), v = .ref p ∧ p ≠ sm ∧ H p = some (.lst (ts ++ tl)) ∧ LsAt PrI H ts l ∧ (∀ x ∈ l, 0 ≤ x.1 ∧ x.1 ≤ 7 ∧ Bw 2 x.2) ∧ (ts.length = 1 ∧ tl = [] ∨ ts.length = 2 ∧ ∃ k, tl = [.int k] ∧ Bw 2 k)
theorem WyL.same {sm : Addr} {H H' : Hp} {v : V} (h : WyL sm H v) (s : Same H H') : WyL sm H' v := by
  obtain ⟨p, ts, tl, l, e, n, h1, h2, h3⟩ := h
  exact ⟨p, ts, tl, l, e, n, s _ _ h1, h2.imp fun v x r => PrI.kps r (Kps.same s), h3⟩
theorem WyL.sx {sm : Addr} {H H' : Hp} {v : V} {ys : List V} (h : WyL sm H v) (hs : H sm = some (.lst ys)) (s : SameX sm H H') : WyL sm H' v := by
  obtain ⟨p, ts, tl, l, e, n, h1, h2, h3⟩ := h
  exact ⟨p, ts, tl, l, e, n, s _ _ n h1, h2.imp fun v x r => PrI.kps r (Kps.sx hs s), h3⟩
abbrev s__law_some_press : Stmt := top 52
theorem sc__law_some_press : FnScope ["rows", "bound", "indexes", "best", "ways", "one", "other", "turn", "first", "last", "parts", "weight", "weights"] ["rows", "bound"] (defScope s__law_some_press) := ⟨rfl, rfl, rfl, by decide +kernel, rfl, by decide +kernel, by decide +kernel⟩

def sp__law_some_press (Z : Zs) : Sp := fun vs H Q E =>
  ∃ (a : Addr) (ws : List V) (xs : List Bn) (bv : V) (bx : Bn), vs = [.ref a, bv] ∧ H a = some (.lst ws) ∧ LsAt RwAt H ws xs ∧ (∀ x ∈ xs, rw2 x) ∧ xs.length ≤ 400 ∧ RwAt H bv bx ∧ rw2 bx ∧ ∀ v H', Same H H' → (v = .non ∨ FdV H' v) → Q v H'
theorem ok__law_some_press (T : Txt Z mg) (h__law_are_press : Has P w Z.K mg base "_law_are_press" 3 ["rows", "bound", "thing"] (sp__law_are_press Z)) (h__law_as_weights : Has P w Z.K mg base "_law_as_weights" 1 ["indexes", "parts"] (sp__law_as_weights Z)) (h__law_cross : Has P w Z.K mg base "_law_cross" 2 ["one", "other"] (sp__law_cross Z)) (h__law_indexes : Has P w Z.K mg base "_law_indexes" 3 ["rows"] (sp__law_indexes Z)) (D : AtF Z.K mg "_law_some_press" "_law_some_press" s__law_some_press ["rows", "bound"]) : Has P w Z.K mg base "_law_some_press" 4 ["rows", "bound"] (sp__law_some_press Z) := by
  refine D.ok sc__law_some_press (fun vs H Q E h => ?_) (fun cdv A outer s H vs Q E hr h => ?_)
  · obtain ⟨a, ws, xs, bv, bx, rfl, _⟩ := h
    rfl
  · refine ⟨_, (pss_cons (ps_set (i := 2) sc__law_some_press.nd rfl (Or.inl rfl) (pe_h (E := ED E) h__law_indexes hr (paW (takes_of rfl rfl rfl rfl)) (pa_cons (pv 0) pa_nil)))
      (pss_cons (ps_set (i := 3) sc__law_some_press.nd rfl (Or.inl rfl) pe_non)
      (pss_cons (ps_set (i := 4) sc__law_some_press.nd rfl (Or.inl rfl) (pe_lst (pa_cons (pe_lst (pa_cons (pe_tup (pa_cons (pe_ix ix_seq (pv 1) pe_int (fun _ _ => rfl)) (pa_cons pe_int pa_nil))) pa_nil)) pa_nil)))
      (pss_cons (ps_for (passes_of rfl) rfl (pi_range1 rfl T.n_range (pa_cons pe_int pa_nil)) (pg_name (i := 5) sc__law_some_press.nd rfl (Or.inl rfl)) (pss_one (ps_for (passes_of rfl) rfl (pi_range2 rfl T.n_range (pa_cons (pe_op op_add (pv 5) pe_int) (pa_cons pe_int pa_nil))) (pg_name (i := 6) sc__law_some_press.nd rfl (Or.inl rfl)) (pss_cons (ps_set (i := 7) sc__law_some_press.nd rfl (Or.inl rfl) (pe_h (E := ED E) h__law_cross hr (paW (takes_of rfl rfl rfl rfl)) (pa_cons (pv 5) (pa_cons (pv 6) pa_nil))))
      (pss_cons (ps_set (i := 8) sc__law_some_press.nd rfl (Or.inl rfl) (pe_h (E := ED E) h__law_cross hr (paW (takes_of rfl rfl rfl rfl)) (pa_cons (pe_ix ix_seq (pv 1) pe_int (fun _ _ => rfl)) (pa_cons (pv 6) pa_nil))))
      (pss_cons (ps_set (i := 9) sc__law_some_press.nd rfl (Or.inl rfl) (pe_h (E := ED E) h__law_cross hr (paW (takes_of rfl rfl rfl rfl)) (pa_cons (pv 5) (pa_cons (pe_ix ix_seq (pv 1) pe_int (fun _ _ => rfl)) pa_nil))))
      (pss_one (ps_if (PW.pt (pw_and (pt_cmpR op_ne (pv 7) pe_int (nomark _)) (pw_and (pt_cmpR op_gt (pe_op op_mulS (pv 8) (pv 7)) pe_int (nomark _)) (pw_and1 (pt_cmpR op_gt (pe_op op_mulS (pv 9) (pv 7)) pe_int (nomark _)))))) (pss_one (ps_expr (pe_bm PySem.F.plainAttrs_list PySem.F.slot_list_append PySem.F.type_list_append mt_append (pv 4) (pa_cons (pe_lst (pa_cons (pe_tup (pa_cons (pv 5) (pa_cons (pe_callB cn_abs rfl T.n_abs (by decide +kernel) (pa_cons (pv 8) pa_nil)) pa_nil))) (pa_cons (pe_tup (pa_cons (pv 6) (pa_cons (pe_callB cn_abs rfl T.n_abs (by decide +kernel) (pa_cons (pv 9) pa_nil)) pa_nil))) (pa_cons (pe_callB cn_abs rfl T.n_abs (by decide +kernel) (pa_cons (pv 7) pa_nil)) pa_nil)))) pa_nil)))) pss_nil))))))))
      (pss_cons (ps_for (passes_of rfl) rfl (pi_list (pv 4)) (pg_name (i := 10) sc__law_some_press.nd rfl (Or.inl rfl)) (pss_cons (ps_set (i := 11) sc__law_some_press.nd rfl (Or.inl rfl) pe_int)
      (C8.pss_cut (ps_if (pt_cmpR op_eq (pe_callB cn_len rfl T.n_len (by decide +kernel) (pa_cons (pv 10) pa_nil)) pe_int (nomark _)) (pss_one (ps_set (i := 11) sc__law_some_press.nd rfl (Or.inl rfl) (pe_ix ix_seq (pv 10) pe_int (fun _ _ => rfl)))) pss_nil)
      (pss_cons (ps_set (i := 12) sc__law_some_press.nd rfl (Or.inl rfl) (pe_h (E := ED E) h__law_as_weights hr (paW (takes_of rfl rfl rfl rfl)) (pa_cons (pv 2) (pa_cons (pe_slice sl_list (pv 10) po_none (po_some pe_int)) pa_nil))))
      (pss_one (ps_if (pt_cmpR op_notN (pv 12) pe_non (nomark _)) (pss_one (ps_if (PW.pt (pw_or (pt_cmpR op_isN (pv 3) pe_non (nomark _)) (pw_or1 (pt_val (pe_h (E := ED E) h__law_are_press hr (paW (takes_of rfl rfl rfl rfl)) (pa_cons (pv 0) (pa_cons (pv 1) (pa_cons (pe_tup (pa_cons (pv 11) (pa_cons (pv 12) pa_nil))) pa_nil)))))))) (pss_one (ps_set (i := 3) sc__law_some_press.nd rfl (Or.inl rfl) (pe_tup (pa_cons (pv 11) (pa_cons (pv 12) pa_nil))))) pss_nil)) pss_nil))))))
      (pss_one (ps_ret (pv 3)))))))), ?_⟩
    try simp only [cxOf]
    obtain ⟨a, ws, xs, bv, bx, rfl, ea, lr, ok, l4, hbx, okb, q⟩ := h
    walk_at "W"
    refine ⟨a, ws, xs, rfl, ea, lr, ok, l4, fun ix zs H1 hix s1 eix z8 hzs => ?_⟩
    have hbx1 := hbx.kps (Kps.same s1)
    obtain ⟨pb, yb, rfl, epb, nyb⟩ := hbx1
    walk_at "W"
    try refine w_ixT epb rfl ?_
    walk_at "W"
    refine k_tup rfl fun t2 H2 ht2 s2 e2 => ?_
    walk_at "W"
    refine k_lst rfl fun l3 H3 hl3 s3 e3 => ?_
    walk_at "W"
    refine k_lst rfl fun sm H4 hsm s4 e4 => ?_
    have nu : ∀ {b : Addr} {o : HO}, H3 b = some o → b ≠ sm := fun h z => by rw [z, hsm] at h; cases h
    have wy0 : WyL sm H4 (.ref l3) := ⟨l3, [.ref t2], [], [((bx.d : Int), 1)], rfl, nu e3, s4 _ _ e3, LsAt.one ⟨t2, rfl, s4 _ _ (s3 _ _ e2)⟩, fun x hx => by
      rw [List.mem_singleton.mp hx]
      have := okb.1
      exact ⟨by show (0 : Int) ≤ (bx.d : Nat); omega, by show ((bx.d : Nat) : Int) ≤ 7; omega, (by show (1 : Int).natAbs < 2 ^ 2; decide)⟩, .inl ⟨rfl, rfl⟩⟩
    have S13 := s2.trans s3
    walk_at "W"
    refine k_forR (fun i σ' H' => (∃ (y5 y6 y7 y8 y9 y10 y11 y12 : Option V) (ps : List V), σ' = [some (.ref a), some (.ref pb), some (.ref ix), some .non, some (.ref sm), y5, y6, y7, y8, y9, y10, y11, y12] ∧ H' sm = some (.lst ps) ∧ (∀ v ∈ ps, WyL sm H' v) ∧ ps.length ≤ 1 + 8 * i) ∧ Same H3 H') (by decide) (by decide) ⟨⟨_, _, _, _, _, _, _, _, _, rfl, e4, fun v hv => by rw [List.mem_singleton.mp hv]; exact wy0, by simp⟩, s4⟩ ?_ ?_
    · rintro i σ' H5 hi ⟨⟨y5, y6, y7, y8, y9, y10, y11, y12, ps, rfl, e5, wy5, ln5⟩, s5⟩
      have i8 : i < 8 := hi
      rw [Int.zero_add]
      walk_at "W"
      refine k_forR2 (lo := (i : Int) + 1) (hi := 8) (fun n σ' H' => (∃ (y6 y7 y8 y9 y10 y11 y12 : Option V) (ps : List V), σ' = [some (.ref a), some (.ref pb), some (.ref ix), some .non, some (.ref sm), some (.int (i : Nat)), y6, y7, y8, y9, y10, y11, y12] ∧ H' sm = some (.lst ps) ∧ (∀ v ∈ ps, WyL sm H' v) ∧ ps.length ≤ 1 + 8 * i + n) ∧ Same H3 H') ⟨by omega, by omega, by decide, by decide⟩ ⟨⟨_, _, _, _, _, _, _, _, rfl, e5, wy5, by omega⟩, s5⟩ ?_ ?_
      · rintro n σ' H6 hn ⟨⟨y6, y7, y8, y9, y10, y11, y12, ps, rfl, e6, wy6, ln6⟩, s6⟩
        obtain ⟨j, hj⟩ : ∃ j : Nat, j = i + 1 + n := ⟨_, rfl⟩
        have j8 : j < 8 := by omega
        rw [show (i : Int) + 1 + (n : Nat) = ((j : Nat) : Int) by omega]
        have ePB : ∀ {H' : Hp}, Same H3 H' → H' pb = some (.tup [.int (bx.d : Nat), yb]) := fun {H'} s => s _ _ (S13 _ _ epb)
        walk_at "W"
        refine ⟨i, j, rfl, i8, j8, fun H7 s7 => ?_⟩
        have ep7 := ePB (s6.trans s7)
        walk_at "W"
        try refine w_ixT ep7 rfl ?_
        refine ⟨bx.d, j, rfl, okb.1, j8, fun H8 s8 => ?_⟩
        have ep8 := ePB (s6.trans (s7.trans s8))
        walk_at "W"
        try refine w_ixT ep8 rfl ?_
        refine ⟨i, bx.d, rfl, i8, okb.1, fun H9 s9 => ?_⟩
        have S9 := s7.trans (s8.trans s9)
        have wt := crs_bw i8 j8
        have wf := crs_bw okb.1 j8
        have wl := crs_bw i8 okb.1
        walk_at "W"
        by_cases ht : crs i j = 0
        · rw [decide_eq_true (congrArg V.int ht)]
          walk_at "W"
          exact ⟨⟨_, _, _, _, _, _, _, ps, rfl, S9 _ _ e6, fun v hv => (wy6 v hv).same S9, by omega⟩, s6.trans S9⟩
        rw [decide_eq_false (fun z => ht (by injection z))]
        walk_at "W"
        refine w_I (bwm wf wt (by decide)) ?_
        walk_at "W"
        by_cases hf : crs bx.d j * crs i j > 0
        case neg =>
          rw [decide_eq_false hf]
          walk_at "W"
          exact ⟨⟨_, _, _, _, _, _, _, ps, rfl, S9 _ _ e6, fun v hv => (wy6 v hv).same S9, by omega⟩, s6.trans S9⟩
        rw [decide_eq_true hf]
        walk_at "W"
        refine w_I (bwm wl wt (by decide)) ?_
        walk_at "W"
        by_cases hl : crs i bx.d * crs i j > 0
        case neg =>
          rw [decide_eq_false hl]
          walk_at "W"
          exact ⟨⟨_, _, _, _, _, _, _, ps, rfl, S9 _ _ e6, fun v hv => (wy6 v hv).same S9, by omega⟩, s6.trans S9⟩
        rw [decide_eq_true hl]
        walk_at "W"
        refine k_bm (S9 _ _ e6) ?_
        walk_at "W"
        refine k_tup rfl fun tA HA htA sA eA => ?_
        walk_at "W"
        refine k_tup rfl fun tB HB htB sB eB => ?_
        walk_at "W"
        refine k_lst rfl fun lC HC hlC sC eC => ?_
        have SC := S9.trans (sA.trans (sB.trans sC))
        have e6C := SC _ _ e6
        have nC : lC ≠ sm := fun z => by
          have := sB _ _ (sA _ _ (S9 _ _ e6))
          rw [z, this] at hlC
          cases hlC
        walk_at "W"
        refine w_app e6C (few_lt (by omega)) fun HD xD kD eD => ?_
        walk_at "W"
        have new : WyL sm HC (.ref lC) := ⟨lC, [.ref tA, .ref tB], [_], [((i : Int), _), ((j : Int), _)], rfl, nC, eC, LsAt.add (LsAt.one ⟨tA, rfl, sC _ _ (sB _ _ eA)⟩) ⟨tB, rfl, sC _ _ eB⟩, fun x hx => by
          simp only [List.mem_cons, List.not_mem_nil, or_false] at hx
          rcases hx with rfl | rfl
          · exact ⟨by show (0 : Int) ≤ (i : Nat); omega, by show ((i : Nat) : Int) ≤ 7; omega, by unfold Bw at *; simpa using wf⟩
          · exact ⟨by show (0 : Int) ≤ (j : Nat); omega, by show ((j : Nat) : Int) ≤ 7; omega, by unfold Bw at *; simpa using wl⟩, .inr ⟨rfl, _, rfl, by unfold Bw at *; simpa using wt⟩⟩
        refine ⟨⟨_, _, _, _, _, _, _, ps ++ [.ref lC], rfl, eD, fun v hv => ?_, by simp; omega⟩, fun b o e => xD _ _ (nu e) (SC _ _ (s6 _ _ e))⟩
        rcases List.mem_append.mp hv with h | h
        · exact ((wy6 v h).same SC).sx e6C xD
        · rw [List.mem_singleton.mp h]
          exact new.sx e6C xD
      · rintro σ' H6 ⟨⟨y6, y7, y8, y9, y10, y11, y12, ps, rfl, e6, wy6, ln6⟩, s6⟩
        walk_at "W"
        exact ⟨⟨_, _, _, _, _, _, _, _, _, rfl, e6, wy6, by omega⟩, s6⟩
    rintro σ' H5 ⟨⟨y5, y6, y7, y8, y9, y10, y11, y12, ps, rfl, e5, wy5, ln5⟩, s5⟩
    have S5 := S13.trans s5
    walk_at "W"
    refine k_forL (xs := ps) (fun n σ' H' => (∃ (bv : V) (y5 y6 y7 y8 y9 y10 y11 y12 : Option V), σ' = [some (.ref a), some (.ref pb), some (.ref ix), some bv, some (.ref sm), y5, y6, y7, y8, y9, y10, y11, y12] ∧ (bv = .non ∨ FdV H' bv)) ∧ Same H5 H') (SqL.of e5) ⟨⟨_, _, _, _, _, _, _, _, _, rfl, .inl rfl⟩, Same.refl _⟩ (fun n σ' H' h => SqL.of (h.2 _ _ e5)) ?_ ?_
    · rintro n v σ' H6 hv ⟨⟨bv', y5, y6, y7, y8, y9, y10, y11, y12, rfl, hb'⟩, s6⟩
      obtain ⟨p, ts, tl, l, rfl, pn, ep, lt', hdir, hsh⟩ := (wy5 v (List.mem_of_getElem? hv)).same s6
      have S6 := S5.trans s6
      walk_at "W"
      refine w_cut (fun σ' H' => (∃ (w : Int), σ' = [some (.ref a), some (.ref pb), some (.ref ix), some bv', some (.ref sm), y5, y6, y7, y8, y9, some (.ref p), some (.int w), y12] ∧ Bw 2 w) ∧ H' = H6) ?_ ?_
      · walk_at "W"
        refine w_lenL (SqL.of ep) ?_
        walk_at "W"
        rcases hsh with ⟨h1, rfl⟩ | ⟨h2, k, rfl, wk⟩
        · have hn : (ts ++ ([] : List V)).length ≠ 3 := by simp; omega
          rw [show decide (V.int (((ts ++ ([] : List V)).length : Nat) : Int) = V.int 3) = false from (dec_len (k := 3)).trans (decide_eq_false hn)]
          walk_at "W"
          exact ⟨⟨1, rfl, by unfold Bw; decide⟩, rfl⟩
        · have hn : (ts ++ [V.int k]).length = 3 := by simp; omega
          rw [show decide (V.int (((ts ++ [V.int k]).length : Nat) : Int) = V.int 3) = true from (dec_len (k := 3)).trans (decide_eq_true hn)]
          walk_at "W"
          refine w_ixL ep (show atI (ts ++ [V.int k]) ((2 : Nat) : Int) = some (.int k) from atI_nat (by rw [List.getElem?_append_right (by omega), h2]; rfl)) ?_
          walk_at "W"
          exact ⟨⟨k, rfl, wk⟩, rfl⟩
      rintro σ7 H7 ⟨⟨w, rfl, ww⟩, rfl⟩
      walk_at "W"
      refine k_slL (SqL.of ep) fun l8 H8 hl8 s8 e8 => ?_
      have e8' : H8 l8 = some (.lst ts) := by
        rw [e8, cutK2]
        rcases hsh with ⟨h1, rfl⟩ | ⟨h2, k, rfl, wk⟩
        · rw [List.append_nil, List.take_of_length_le (by omega)]
        · rw [← h2, List.take_left]
      have S8 := S6.trans s8
      have tl3 : l.length ≤ 3 := by
        rw [← lt'.1]
        rcases hsh with ⟨h1, -⟩ | ⟨h2, -⟩ <;> omega
      refine ⟨ix, l8, zs, xs.length, ts, l, rfl, S8 _ _ eix, ⟨z8, hzs⟩, l4, e8', lt'.imp fun v x r => PrI.kps r (Kps.same s8), hdir, tl3, fun wv H9 s9 hw => ?_⟩
      have S9 := S8.trans s9
      have hb9 : bv' = .non ∨ FdV H9 bv' := hb'.imp id fun h => h.kps (Kps.same (s8.trans s9))
      have s69 := s6.trans (s8.trans s9)
      walk_at "W"
      rcases hw with rfl | hw
      · refine ⟨rfl, ?_⟩
        walk_at "W"
        exact ⟨⟨_, _, _, _, _, _, _, _, _, rfl, hb9⟩, s69⟩
      · have hw' := hw
        obtain ⟨pw, zw, lw, rfl, epw, -⟩ := hw'
        refine ⟨rfl, ?_⟩
        walk_at "W"
        rcases hb9 with rfl | hb9
        · refine ⟨rfl, ?_⟩
          walk_at "W"
          refine k_tup rfl fun tA HA htA sA eA => ?_
          walk_at "W"
          exact ⟨⟨_, _, _, _, _, _, _, _, _, rfl, .inr ⟨tA, w, _, rfl, eA, ww, hw.kps (Kps.same sA)⟩⟩, s69.trans sA⟩
        · have hb9' := hb9
          obtain ⟨pbb, wbb, wvb, rfl, epbb, -⟩ := hb9'
          refine ⟨rfl, ?_⟩
          walk_at "W"
          refine k_tup rfl fun tA HA htA sA eA => ?_
          have SA := S9.trans sA
          have fd : FdV HA (.ref tA) := ⟨tA, w, _, rfl, eA, ww, hw.kps (Kps.same sA)⟩
          obtain ⟨o, ho, pko⟩ := fd.t (Z := Z)
          refine ⟨a, ws, xs, _, _, bx, o, rfl, (s1.trans SA) _ _ ea, lr.imp fun v x r => r.kps (Kps.same (s1.trans SA)), ok, ⟨pb, yb, rfl, SA _ _ epb, nyb.kps (Kps.same SA)⟩, okb, ho, pko, fun HB sB => ?_⟩
          walk_at "W"
          cases pressT xs bx o with
          | true =>
            walk_at "W"
            refine k_tup rfl fun tC HC htC sC eC => ?_
            walk_at "W"
            exact ⟨⟨_, _, _, _, _, _, _, _, _, rfl, .inr ⟨tC, w, _, rfl, eC, ww, hw.kps (Kps.same (sA.trans (sB.trans sC)))⟩⟩, s69.trans (sA.trans (sB.trans sC))⟩
          | false =>
            walk_at "W"
            exact ⟨⟨_, _, _, _, _, _, _, _, _, rfl, .inr (hb9.kps (Kps.same (sA.trans sB)))⟩, s69.trans (sA.trans sB)⟩
    · rintro σ' H6 ⟨⟨bv', y5, y6, y7, y8, y9, y10, y11, y12, rfl, hb'⟩, s6⟩
      walk_at "W"
      exact q bv' H6 (s1.trans (S5.trans s6)) hb'
abbrev s__law_bound_near : Stmt := top 53
theorem sc__law_bound_near : FnScope ["draws", "rows", "kind", "way", "gap", "least", "one", "other", "part"] ["draws", "rows"] (defScope s__law_bound_near) := ⟨rfl, rfl, rfl, by decide +kernel, rfl, by decide +kernel, by decide +kernel⟩

def sp__law_bound_near (Z : Zs) : Sp := fun vs H Q E =>
  ∃ (p c a : Addr) (ws : List V) (xs : List Bn), vs = [.ref p, .ref a] ∧ St4 H p c ∧ a ≠ p ∧ H a = some (.lst ws) ∧ LsAt RwAt H ws xs ∧ xs.length ≤ 10 ∧ (∀ x ∈ xs, x.d < 8 ∧ Nu.ok 106 31 (nuB x)) ∧ ∀ u bx H', SameX p H H' → St4 H' p c → RwAt H' u bx → rw2 bx → Q u H'
theorem ok__law_bound_near (T : Txt Z mg) (h__law_plus : Has P w Z.K mg base "_law_plus" 1 ["one", "other"] (sp__law_plus Z)) (h__law_over : Has P w Z.K mg base "_law_over" 1 ["number", "part"] (sp__law_over Z)) (h__law_scaled : Has P w Z.K mg base "_law_scaled" 1 ["part", "one"] (sp__law_scaled Z)) (h__law_least : Has P w Z.K mg base "_law_least" 3 ["rows"] (sp__law_least Z)) (h__law_draw : Has P w Z.K mg base "_law_draw" 1 ["draws", "many"] (sp__law_draw Z)) (h__law_number : Has P w Z.K mg base "_law_number" 3 ["draws"] (sp__law_number Z)) (D : AtF Z.K mg "_law_bound_near" "_law_bound_near" s__law_bound_near ["draws", "rows"]) : Has P w Z.K mg base "_law_bound_near" 4 ["draws", "rows"] (sp__law_bound_near Z) := by
  refine D.ok sc__law_bound_near (fun vs H Q E h => ?_) (fun cdv A outer s H vs Q E hr h => ?_)
  · obtain ⟨p, c, a, ws, xs, rfl, _⟩ := h
    rfl
  · refine ⟨_, (pss_cons (ps_set (i := 2) sc__law_bound_near.nd rfl (Or.inl rfl) (pe_h (E := ED E) h__law_draw hr (paW (takes_of rfl rfl rfl rfl)) (pa_cons (pv 0) (pa_cons pe_int pa_nil))))
      (pss_cons (ps_set (i := 3) sc__law_bound_near.nd rfl (Or.inl rfl) (pe_h (E := ED E) h__law_draw hr (paW (takes_of rfl rfl rfl rfl)) (pa_cons (pv 0) (pa_cons pe_int pa_nil))))
      (pss_cons (ps_if (PW.pt (pw_or (pt_cmpR (op_eqD hr.units) (pv 1) (pe_lst pa_nil) (nomark _)) (pw_or1 (pt_cmpR op_eq (pv 2) pe_int (nomark _))))) (pss_one (ps_ret (pe_tup (pa_cons (pv 3) (pa_cons (pe_h (E := ED E) h__law_number hr (paW (takes_of rfl rfl rfl rfl)) (pa_cons (pv 0) pa_nil)) pa_nil))))) pss_nil)
      (pss_cons (ps_set (i := 4) sc__law_bound_near.nd rfl (Or.inl rfl) (pe_tup (pa_cons (pe_op op_sub (pe_h (E := ED E) h__law_draw hr (paW (takes_of rfl rfl rfl rfl)) (pa_cons (pv 0) (pa_cons pe_int pa_nil))) pe_int) (pa_cons (pe_h (E := ED E) h__law_draw hr (paW (takes_of rfl rfl rfl rfl)) (pa_cons (pv 0) (pa_cons pe_int pa_nil))) (pa_cons (pe_op op_add pe_int (pe_h (E := ED E) h__law_draw hr (paW (takes_of rfl rfl rfl rfl)) (pa_cons (pv 0) (pa_cons (pe_op op_pow pe_int pe_int) pa_nil)))) pa_nil)))))
      (C8.pss_cut (ps_if (pt_cmpR op_eq (pe_h (E := ED E) h__law_draw hr (paW (takes_of rfl rfl rfl rfl)) (pa_cons (pv 0) (pa_cons pe_int pa_nil))) pe_int (nomark _)) (pss_one (ps_set (i := 4) sc__law_bound_near.nd rfl (Or.inl rfl) (pe_tup (pa_cons pe_int (pa_cons pe_int (pa_cons pe_int pa_nil)))))) pss_nil)
      (pss_cons (ps_set (i := 5) sc__law_bound_near.nd rfl (Or.inl rfl) (pe_h (E := ED E) h__law_least hr (paW (takes_of rfl rfl rfl rfl)) (pa_cons (pv 1) pa_nil)))
      (pss_cons (ps_if (PW.pt (pw_and (pt_cmpR op_eq (pv 2) pe_int (nomark _)) (pw_and1 (pt_cmpR op_notN (pe_ix ix_seq (pv 5) (pv 3) (fun _ _ => rfl)) pe_non (nomark _))))) (pss_one (ps_ret (pe_tup (pa_cons (pv 3) (pa_cons (pe_h (E := ED E) h__law_plus hr (paW (takes_of rfl rfl rfl rfl)) (pa_cons (pv 4) (pa_cons (pe_ix ix_seq (pv 5) (pv 3) (fun _ _ => rfl)) pa_nil))) pa_nil))))) pss_nil)
      (pss_cons (ps_set (i := 6) sc__law_bound_near.nd rfl (Or.inl rfl) (pe_ix ix_seq (pv 5) (pe_op op_mod (pe_op op_add (pv 3) pe_int) pe_int) (fun _ _ => rfl)))
      (pss_cons (ps_set (i := 7) sc__law_bound_near.nd rfl (Or.inl rfl) (pe_ix ix_seq (pv 5) (pe_op op_mod (pe_op op_add (pv 3) pe_int) pe_int) (fun _ _ => rfl)))
      (pss_cons (ps_set (i := 8) sc__law_bound_near.nd rfl (Or.inl rfl) (pe_op op_add pe_int (pe_op op_mod (pe_op op_add (pv 3) pe_int) pe_int)))
      (C8.pss_cut (ps_if (pt_cmpR op_eq (pv 2) pe_int (nomark _)) (pss_cons (ps_set (i := 6) sc__law_bound_near.nd rfl (Or.inl rfl) (pe_ix ix_seq (pv 5) (pe_op op_mod (pe_op op_add (pv 3) pe_int) pe_int) (fun _ _ => rfl)))
      (pss_cons (ps_set (i := 8) sc__law_bound_near.nd rfl (Or.inl rfl) pe_int)
      (pss_one (ps_if (PW.pt (pw_and (pt_cmpR op_notN (pv 6) pe_non (nomark _)) (pw_and (pt_cmpR op_eq (pe_op op_mod (pv 3) pe_int) pe_int (nomark _)) (pw_and1 (pt_cmpR op_notN (pv 7) pe_non (nomark _)))))) (pss_one (ps_set (i := 7) sc__law_bound_near.nd rfl (Or.inl rfl) (pe_h (E := ED E) h__law_scaled hr (paW (takes_of rfl rfl rfl rfl)) (pa_cons pe_int (pa_cons (pv 7) pa_nil))))) pss_nil)))) pss_nil)
      (pss_cons (ps_if (PW.pt (pw_or (pt_cmpR op_isN (pv 6) pe_non (nomark _)) (pw_or1 (pt_cmpR op_isN (pv 7) pe_non (nomark _))))) (pss_one (ps_ret (pe_tup (pa_cons (pv 3) (pa_cons (pe_h (E := ED E) h__law_plus hr (paW (takes_of rfl rfl rfl rfl)) (pa_cons (pv 4) (pa_cons (pe_ix ix_seq (pe_ix ix_seq (pv 1) pe_int (fun _ _ => rfl)) pe_int (fun _ _ => rfl)) pa_nil))) pa_nil))))) pss_nil)
      (pss_one (ps_ret (pe_tup (pa_cons (pv 3) (pa_cons (pe_h (E := ED E) h__law_plus hr (paW (takes_of rfl rfl rfl rfl)) (pa_cons (pv 4) (pa_cons (pe_h (E := ED E) h__law_over hr (paW (takes_of rfl rfl rfl rfl)) (pa_cons (pe_h (E := ED E) h__law_plus hr (paW (takes_of rfl rfl rfl rfl)) (pa_cons (pv 6) (pa_cons (pv 7) pa_nil))) (pa_cons (pv 8) pa_nil))) pa_nil))) pa_nil))))))))))))))))), ?_⟩
    try simp only [cxOf]
    obtain ⟨p, c, a, ws, xs, rfl, st, ap, ea, lr, l10, ok, q⟩ := h
    have ok2 : ∀ x ∈ xs, rw2 x := fun x hx => ⟨(ok x hx).1, (ok x hx).2.mono (by decide) (by decide)⟩
    walk_at "W"
    refine ⟨p, c, _, rfl, st, by decide, by unfold Bw; decide, fun kd H1 k0 k1 x1 st1 => ?_⟩
    walk_at "W"
    refine ⟨p, c, _, rfl, st1, by decide, by unfold Bw; decide, fun wy H2 w0 w1 x2 st2 => ?_⟩
    obtain ⟨d, rfl⟩ := Int.eq_ofNat_of_zero_le w0
    have d8 : d < 8 := by omega
    have X2 := x1.trans x2
    have ea2 := X2 _ _ ap ea
    have lr2 := lr.imp fun v x r => r.kps (st.kps X2)
    walk_at "W"
    refine k_lst rfl fun l3 H3 hl3 s3 e3 => ?_
    have st3 := st2.same s3
    have X3 := X2.trans (Same.x s3)
    have ea3 := s3 _ _ ea2
    have lr3 := lr2.imp fun v x r => r.kps (Kps.same s3)
    have direct : ∀ {QQ : VK} {EE : XK}, (∀ u n H', SameX p H H' → St4 H' p c → N3At H' u n → Nu.ok 86 14 n → QQ u H') → sp__law_number Z [.ref p] H3 QQ EE := fun {QQ EE} k => ⟨p, c, rfl, st3, fun u n H' x s h o => k u n H' (X3.trans x) s h o⟩
    refine w_eqRows ea3 lr3 e3 ?_
    cases hxe : xs.isEmpty with
    | true =>
      walk_at "W"
      refine direct fun u n H4 x4 st4 h4 o4 => ?_
      walk_at "W"
      exact k_tup rfl fun t5 H5 ht5 s5 e5 => q _ ⟨d, n.t, n.r, n.b⟩ H5 (x4.trans (Same.x s5)) (st4.same s5) ⟨t5, u, rfl, e5, h4.same s5⟩ ⟨d8, o4.mono (by decide) (by decide)⟩
    | false =>
    walk_at "W"
    by_cases hk : kd = 0
    · rw [decide_eq_true (by rw [hk])]
      walk_at "W"
      refine direct fun u n H4 x4 st4 h4 o4 => ?_
      walk_at "W"
      exact k_tup rfl fun t5 H5 ht5 s5 e5 => q _ ⟨d, n.t, n.r, n.b⟩ H5 (x4.trans (Same.x s5)) (st4.same s5) ⟨t5, u, rfl, e5, h4.same s5⟩ ⟨d8, o4.mono (by decide) (by decide)⟩
    rw [decide_eq_false (fun z => hk (by injection z))]
    walk_at "W"
    refine ⟨p, c, _, rfl, st3, by decide, by unfold Bw; decide, fun n1 H4 n10 n11 x4 st4 => ?_⟩
    walk_at "W"
    refine ⟨p, c, _, rfl, st4, by decide, by unfold Bw; decide, fun n2 H5 n20 n21 x5 st5 => ?_⟩
    walk_at "W"
    refine ⟨p, c, _, rfl, st5, by decide, by unfold Bw; decide, fun n3 H6 n30 n31 x6 st6 => ?_⟩
    walk_at "W"
    refine k_tup rfl fun gp H7 hgp s7 e7 => ?_
    have n3x : n3 < 1000000 := n31
    have og : Nu.ok 4 20 ⟨n1 - 2, n2, 1 + n3⟩ := ⟨by show (0 : Int) < 1 + n3; omega, by show Bw 4 (n1 - 2); unfold Bw; omega, by show Bw 4 n2; unfold Bw; omega, by show Bw 20 (1 + n3); unfold Bw; omega⟩
    have X7 : SameX p H3 H7 := x4.trans (x5.trans (x6.trans (Same.x s7)))
    have st7 := st6.same s7
    walk_at "W"
    refine w_cut (fun σ' H' => ∃ (gv : V) (g : Nu), σ' = [some (.ref p), some (.ref a), some (.int kd), some (.int (d : Nat)), some gv, none, none, none, none] ∧ SameX p H3 H' ∧ St4 H' p c ∧ N3At H' gv g ∧ Nu.ok 4 20 g) ?_ ?_
    · walk_at "W"
      refine ⟨p, c, _, rfl, st7, by decide, by unfold Bw; decide, fun k H8 k0' k1' x8 st8 => ?_⟩
      walk_at "W"
      by_cases hk' : k = 0
      · rw [decide_eq_true (by rw [hk'])]
        walk_at "W"
        refine k_tup rfl fun gp2 H9 hgp2 s9 e9 => ?_
        walk_at "W"
        exact ⟨.ref gp2, ⟨0, 0, 1⟩, rfl, X7.trans (x8.trans (Same.x s9)), st8.same s9, ⟨gp2, rfl, e9⟩, by decide, by unfold Bw; decide, by unfold Bw; decide, by unfold Bw; decide⟩
      · rw [decide_eq_false (fun z => hk' (by injection z))]
        walk_at "W"
        exact ⟨.ref gp, _, rfl, X7.trans x8, st8, N3At.kps (n := ⟨n1 - 2, n2, 1 + n3⟩) ⟨gp, rfl, e7⟩ (st7.kps x8), og⟩
    rintro σ8 H8 ⟨gv, g, rfl, X8, st8, hg, og⟩
    have ea8 := X8 _ _ ap ea3
    have lr8 := lr3.imp fun v x r => r.kps (st3.kps X8)
    walk_at "W"
    refine ⟨a, ws, xs, rfl, ea8, lr8, ok2, by omega, fun u zs H9 hu s9 eu bz => ?_⟩
    have st9 := st8.same s9
    have hg9 := hg.same s9
    have ea9 := s9 _ _ ea8
    have lr9 := lr8.imp fun v x r => r.kps (Kps.same s9)
    have X9 : SameX p H H9 := X3.trans (X8.trans (Same.x s9))
    have l8 := lsF_len (xs := xs)
    have at8 : ∀ {k : Nat}, k < 8 → ∃ zv, zs[k]? = some zv ∧ NuO H9 zv ((lsF xs).getD k none) := fun {k} hk => by
      have ed : (lsF xs)[k]? = some ((lsF xs).getD k none) := by rw [List.getD_eq_getElem?_getD, List.getElem?_eq_getElem (by omega)]; rfl
      obtain ⟨zv, e, h⟩ := bz.get' ed
      exact ⟨zv, e, h⟩
    have sz : ∀ {k : Nat} {m : Nu}, k < 8 → (lsF xs).getD k none = some m → Nu.ok 106 31 m := fun {k m} hk e => by
      rcases lsF_spec FF ok2 hk with ⟨e', -⟩ | ⟨y, hy, -, e', -⟩
      · rw [e] at e'; cases e'
      · rw [e] at e'
        cases e'
        exact (ok y hy).2
    have fin : ∀ {t2 : Addr} {nv' : V} {n : Nu} {H4 H5 : Hp}, Same H9 H4 → N3At H4 nv' n → Nu.ok 200 90 n → Same H4 H5 → H5 t2 = some (.tup [.int (d : Nat), nv']) → Q (.ref t2) H5 := fun {t2 nv' n H4 H5} s4 hn on s5 e => q _ ⟨d, n.t, n.r, n.b⟩ H5 (X9.trans (Same.x (s4.trans s5))) ((st9.same s4).same s5) ⟨t2, nv', rfl, e, hn.same s5⟩ ⟨d8, on⟩
    have lt : ∀ k, (d + k) % 8 < 8 := fun k => Nat.mod_lt _ (by decide)
    obtain ⟨zw, ezw, hzw⟩ := at8 d8
    obtain ⟨z1, ez1, hz1⟩ := at8 (lt 1)
    obtain ⟨z2, ez2, hz2⟩ := at8 (lt 2)
    obtain ⟨z7, ez7, hz7⟩ := at8 (lt 7)
    have f1 : atI zs (((d : Int) + 1) % 8) = some z1 := by rw [show ((d : Int) + 1) % 8 = (((d + 1) % 8 : Nat) : Int) by omega]; exact atI_nat ez1
    have f2 : atI zs (((d : Int) + 2) % 8) = some z2 := by rw [show ((d : Int) + 2) % 8 = (((d + 2) % 8 : Nat) : Int) by omega]; exact atI_nat ez2
    have f7 : atI zs (((d : Int) + 7) % 8) = some z7 := by rw [show ((d : Int) + 7) % 8 = (((d + 7) % 8 : Nat) : Int) by omega]; exact atI_nat ez7
    have main : ∀ {σ : L2.St}, σ = [some (.ref p), some (.ref a), some (.int kd), some (.int (d : Nat)), some gv, some (.ref u), none, none, none] → True := fun _ => trivial
    walk_at "W"
    by_cases hk1 : kd = 1
    case' pos => rw [decide_eq_true (by rw [hk1])]
    case' neg => rw [decide_eq_false (fun z => hk1 (by injection z))]
    case' pos =>
      walk_at "W"
      refine w_ixL eu (atI_nat ezw) ?_
      walk_at "W"
    case' pos =>
      cases ew : (lsF xs).getD d none with
      | some m =>
        rw [ew] at hzw
        have om := sz d8 ew
        obtain ⟨pm, rfl, em⟩ := hzw
        refine ⟨rfl, ?_⟩
        walk_at "W"
        refine w_ixL eu (atI_nat ezw) ?_
        refine ⟨_, _, g, m, rfl, hg9, ⟨pm, rfl, em⟩, og.mono (by decide) (by decide), om.mono (by decide) (by decide), fun u4 H4 s4 h4 => ?_⟩
        walk_at "W"
        exact k_tup rfl fun t5 H5 ht5 s5 e5 => fin s4 h4 ((plN_ok og om).mono (by decide) (by decide)) s5 e5
      | none => ?_
    case' pos =>
      rw [ew] at hzw
      cases hzw
      refine ⟨rfl, ?_⟩
    all_goals
      walk_at "W"
      refine w_ixL eu f1 ?_
      walk_at "W"
      refine w_ixL eu f7 ?_
      walk_at "W"
      refine w_cut (fun σ' H' => ∃ (zo zt : V) (o1 o2 : Option Nu) (pt : Int), σ' = [some (.ref p), some (.ref a), some (.int kd), some (.int (d : Nat)), some gv, some (.ref u), some zo, some zt, some (.int pt)] ∧ Same H9 H' ∧ NuO H' zo o1 ∧ (∀ m, o1 = some m → Nu.ok 106 31 m) ∧ NuO H' zt o2 ∧ (∀ m, o2 = some m → Nu.ok 108 31 m) ∧ (pt = 1 ∨ pt = 2)) ?_ ?_
      · have pm : (1 : Int) + ((d : Int) + 1) % 2 = 1 ∨ (1 : Int) + ((d : Int) + 1) % 2 = 2 := by omega
        have so : ∀ {k : Nat}, k < 8 → ∀ m, (lsF xs).getD k none = some m → Nu.ok 108 31 m := fun {k} hk m e => (sz hk e).mono (by decide) (by decide)
        walk_at "W"
        by_cases hk2 : kd = 2
        case neg =>
          rw [decide_eq_false (fun z => hk2 (by injection z))]
          walk_at "W"
          exact ⟨z1, z7, _, _, _, rfl, Same.refl _, hz1, fun m e => sz (lt 1) e, hz7, so (lt 7), pm⟩
        rw [decide_eq_true (by rw [hk2])]
        walk_at "W"
        refine w_ixL eu f2 ?_
        walk_at "W"
        cases e2 : (lsF xs).getD ((d + 2) % 8) none with
        | none =>
          rw [e2] at hz2
          cases hz2
          refine ⟨rfl, ?_⟩
          walk_at "W"
          exact ⟨_, z7, none, _, 1, rfl, Same.refl _, rfl, (fun m e => by cases e), hz7, so (lt 7), .inl rfl⟩
        | some m2 =>
        have hz2' := hz2
        rw [e2] at hz2'
        obtain ⟨p2, rfl, em2⟩ := hz2'
        refine ⟨rfl, ?_⟩
        walk_at "W"
        by_cases hd2 : (d : Int) % 2 = 1
        case neg =>
          rw [decide_eq_false (fun z => hd2 (by injection z))]
          walk_at "W"
          exact ⟨_, z7, _, _, 1, rfl, Same.refl _, hz2, fun m e => sz (lt 2) e, hz7, so (lt 7), .inl rfl⟩
        rw [decide_eq_true (congrArg V.int hd2)]
        walk_at "W"
        cases e7 : (lsF xs).getD ((d + 7) % 8) none with
        | none =>
          have hz7' := hz7
          rw [e7] at hz7'
          cases hz7'
          refine ⟨rfl, ?_⟩
          walk_at "W"
          exact ⟨_, _, _, none, 1, rfl, Same.refl _, hz2, fun m e => sz (lt 2) e, rfl, (fun m e => by cases e), .inl rfl⟩
        | some m7 =>
          have o7 := sz (lt 7) e7
          have hz7' := hz7
          rw [e7] at hz7'
          obtain ⟨p7, rfl, em7⟩ := hz7'
          refine ⟨rfl, ?_⟩
          walk_at "W"
          refine ⟨2, _, m7, rfl, ⟨p7, rfl, em7⟩, o7.mono (by decide) (by decide), by unfold Bw; decide, fun u4 H4 s4 h4 => ?_⟩
          walk_at "W"
          exact ⟨_, u4, _, some (scN 2 m7), 1, rfl, s4, NuO.kps hz2 (Kps.same s4), fun m e => sz (lt 2) e, h4, (fun m e => by cases e; exact (scN_okG o7 (show Bw 2 2 by unfold Bw; decide)).mono (by decide) (by decide)), .inl rfl⟩
      rintro σ' H4 ⟨zo, zt, o1, o2, pt, rfl, s4, ho, so1, ht, so2, hpt⟩
      have hg4 := hg9.same s4
      have ea4 := s4 _ _ ea9
      have lr4 := lr9.imp fun v x r => r.kps (Kps.same s4)
      have other : (∀ {QQ : VK} {EE : XK} {H5 : Hp}, True) := trivial
      have row0 : ∃ (p0 : Addr) (y0 : V) (x0 : Bn), ws[0]? = some (.ref p0) ∧ H4 p0 = some (.tup [.int (x0.d : Nat), y0]) ∧ N3At H4 y0 (nuB x0) ∧ Nu.ok 106 31 (nuB x0) := by
        have xl : 0 < xs.length := by cases xs with | nil => cases hxe | cons _ _ => simp
        have e0 := List.getElem?_eq_getElem (show 0 < ws.length by rw [lr.1]; exact xl)
        obtain ⟨x0, ex0, p0, y0, e, h1, h2⟩ := lr4.get e0
        exact ⟨p0, y0, x0, by rw [e0, e], h1, h2, (ok x0 (List.mem_of_getElem? ex0)).2⟩
      obtain ⟨p0, y0, x0, ew0, ep0, ny0, ox0⟩ := row0
      walk_at "W"
      cases o1 with
      | none =>
        cases ho
        refine ⟨rfl, ?_⟩
        walk_at "W"
        refine w_ixL ea4 (show atI ws 0 = some (.ref p0) from atI_nat ew0) ?_
        walk_at "W"
        try refine w_ixT ep0 rfl ?_
        refine ⟨_, _, g, nuB x0, rfl, hg4, ny0, og.mono (by decide) (by decide), ox0.mono (by decide) (by decide), fun u5 H5 s5 h5 => ?_⟩
        walk_at "W"
        exact k_tup rfl fun t6 H6 ht6 s6 e6 => fin (s4.trans s5) h5 ((plN_ok og ox0).mono (by decide) (by decide)) s6 e6
      | some m1 =>
      obtain ⟨pm1, rfl, em1⟩ := ho
      refine ⟨rfl, ?_⟩
      walk_at "W"
      cases o2 with
      | none =>
        cases ht
        refine ⟨rfl, ?_⟩
        walk_at "W"
        refine w_ixL ea4 (show atI ws 0 = some (.ref p0) from atI_nat ew0) ?_
        walk_at "W"
        try refine w_ixT ep0 rfl ?_
        refine ⟨_, _, g, nuB x0, rfl, hg4, ny0, og.mono (by decide) (by decide), ox0.mono (by decide) (by decide), fun u5 H5 s5 h5 => ?_⟩
        walk_at "W"
        exact k_tup rfl fun t6 H6 ht6 s6 e6 => fin (s4.trans s5) h5 ((plN_ok og ox0).mono (by decide) (by decide)) s6 e6
      | some m2 =>
      obtain ⟨pm2, rfl, em2⟩ := ht
      have om1 := so1 m1 rfl
      have om2 := so2 m2 rfl
      refine ⟨rfl, ?_⟩
      walk_at "W"
      refine ⟨_, _, m1, m2, rfl, ⟨pm1, rfl, em1⟩, ⟨pm2, rfl, em2⟩, om1.mono (by decide) (by decide), om2.mono (by decide) (by decide), fun u5 H5 s5 h5 => ?_⟩
      have op := plN_ok om1 om2
      have kw : Bw 2 pt := by rcases hpt with e | e <;> (rw [e]; unfold Bw; decide)
      walk_at "W"
      refine ⟨_, _, pt, rfl, h5, op.mono (by decide) (by decide), kw.mono (by decide), fun u6 H6 s6 h6 => ?_⟩
      have oo : Nu.ok 140 64 ⟨(plN m1 m2).t, (plN m1 m2).r, pt * (plN m1 m2).b⟩ := ⟨Int.mul_pos (by rcases hpt with e | e <;> omega) op.1, op.2.1.mono (by decide), op.2.2.1.mono (by decide), (kw.mul op.2.2.2).mono (by decide)⟩
      walk_at "W"
      refine ⟨_, _, g, _, rfl, (hg4.same s5).same s6, h6, og.mono (by decide) (by decide), oo.mono (by decide) (by decide), fun u7 H7 s7 h7 => ?_⟩
      walk_at "W"
      exact k_tup rfl fun t8 H8 ht8 s8 e8 => fin (s4.trans (s5.trans (s6.trans s7))) h7 ((plN_ok og oo).mono (by decide) (by decide)) s8 e8
theorem POk.nt {Z : Zs} {H : Hp} {v : V} (h : NT H v) : POk Z H v := ⟨none, .inl h, fun x e => by cases e⟩
theorem POk.len {Z : Zs} {H : Hp} {p : Addr} {xs : List V} (h : H p = some (.tup xs)) (n : xs.length ≠ 2) : POk Z H (.ref p) := ⟨none, .inr (.inl ⟨p, xs, rfl, h, n⟩), fun x e => by cases e⟩
theorem POk.two {Z : Zs} {H : Hp} {p : Addr} {x y : V} (h : H p = some (.tup [x, y])) (h1 : Th Z.c_Root H x) (n : isI x = false) : POk Z H (.ref p) := ⟨none, .inr (.inr ⟨p, x, y, rfl, h, h1, n⟩), fun x e => by cases e⟩
theorem POk.pr {Z : Zs} {H : Hp} {p : Addr} {w : Int} {y : V} (h : H p = some (.tup [.int w, y])) (hw : Bw 80 w) (t : TOk Z H y) : POk Z H (.ref p) := by
  obtain ⟨t, h1, h2⟩ := t
  exact ⟨some (w, t), ⟨p, y, rfl, h, h1⟩, fun x e => by cases e; exact ⟨hw, h2⟩⟩
abbrev s__law_press_spoiled : Stmt := top 56
theorem sc__law_press_spoiled : FnScope ["draws", "found", "kind", "weight", "items", "some", "part", "item"] ["draws", "found"] (defScope s__law_press_spoiled) := ⟨rfl, rfl, rfl, by decide +kernel, rfl, by decide +kernel, by decide +kernel⟩

def sp__law_press_spoiled (Z : Zs) : Sp := fun vs H Q E =>
  ∃ (p c : Addr) (v : V), vs = [.ref p, v] ∧ St4 H p c ∧ FdV H v ∧ ∀ u H', SameX p H H' → St4 H' p c → POk Z H' u → Q u H'
theorem ok__law_press_spoiled (T : Txt Z mg) (h__law_spoiled : Has P w Z.K mg base "_law_spoiled" 6 ["draws", "items"] (sp__law_spoiled Z)) (h__law_draw : Has P w Z.K mg base "_law_draw" 1 ["draws", "many"] (sp__law_draw Z)) (h_Root : HasC P w Z.K mg base "Root" Z.c_Root 3 ["self", "top", "root", "bottom"] (sp_Root_init Z)) (D : AtF Z.K mg "_law_press_spoiled" "_law_press_spoiled" s__law_press_spoiled ["draws", "found"]) : Has P w Z.K mg base "_law_press_spoiled" 7 ["draws", "found"] (sp__law_press_spoiled Z) := by
  refine D.ok sc__law_press_spoiled (fun vs H Q E h => ?_) (fun cdv A outer s H vs Q E hr h => ?_)
  · obtain ⟨p, c, v, rfl, _⟩ := h
    rfl
  · refine ⟨_, (pss_cons (ps_set (i := 2) sc__law_press_spoiled.nd rfl (Or.inl rfl) (pe_h (E := ED E) h__law_draw hr (paW (takes_of rfl rfl rfl rfl)) (pa_cons (pv 0) (pa_cons pe_int pa_nil))))
      (pss_cons (ps_asg (pv 1) (pg_tup rfl (pgs_cons (pg_name (i := 3) sc__law_press_spoiled.nd rfl (Or.inl rfl)) (pgs_cons (pg_name (i := 4) sc__law_press_spoiled.nd rfl (Or.inl rfl)) pgs_nil))))
      (pss_cons (ps_if (pt_cmpR op_eq (pv 2) pe_int (nomark _)) (pss_cons (ps_set (i := 5) sc__law_press_spoiled.nd rfl (Or.inl rfl) (pe_lst (pa_cons (pe_op op_add (pv 3) pe_int) (pa_cons (pe_op op_sub (pv 3) pe_int) (pa_cons (pe_un un_neg (pv 3)) (pa_cons (pe_cmpR op_eq (pv 3) pe_int (nomark _)) (pa_cons (pe_callTy call_str_int rfl T.n_str (by decide +kernel) (pa_cons (pv 3) pa_nil)) (pa_cons (pe_hc (E := ED E) h_Root hr (paW (takes_of rfl rfl rfl rfl)) (pa_cons (pv 3) (pa_cons pe_int (pa_cons pe_int pa_nil)))) (pa_cons pe_non (pa_cons pe_int (pa_cons (pe_op op_mulS pe_int (pv 3)) pa_nil)))))))))))
      (pss_one (ps_ret (pe_tup (pa_cons (pe_ix ix_seq (pv 5) (pe_h (E := ED E) h__law_draw hr (paW (takes_of rfl rfl rfl rfl)) (pa_cons (pv 0) (pa_cons (pe_callB cn_len rfl T.n_len (by decide +kernel) (pa_cons (pv 5) pa_nil)) pa_nil))) (fun _ _ => rfl)) (pa_cons (pv 4) pa_nil)))))) pss_nil)
      (pss_cons (ps_if (pt_cmpR op_eq (pv 2) pe_int (nomark _)) (pss_one (ps_ret (pe_ix ix_seq (pe_lst (pa_cons (pe_lst (pa_cons (pv 3) (pa_cons (pv 4) pa_nil))) (pa_cons (pe_tup (pa_cons (pv 3) pa_nil)) (pa_cons (pe_tup (pa_cons (pv 3) (pa_cons (pv 4) (pa_cons (pv 4) pa_nil)))) (pa_cons (pe_tup (pa_cons (pv 4) (pa_cons (pv 3) pa_nil))) (pa_cons (pv 4) (pa_cons pe_non pa_nil))))))) (pe_h (E := ED E) h__law_draw hr (paW (takes_of rfl rfl rfl rfl)) (pa_cons (pv 0) (pa_cons pe_int pa_nil))) (fun _ _ => rfl)))) pss_nil)
      (pss_cons (ps_if (pt_cmpR op_eq (pv 2) pe_int (nomark _)) (pss_cons (ps_set (i := 6) sc__law_press_spoiled.nd rfl (Or.inr rfl) (pe_op op_add pe_int (pe_h (E := ED E) h__law_draw hr (paW (takes_of rfl rfl rfl rfl)) (pa_cons (pv 0) (pa_cons (pe_op op_pow pe_int pe_int) pa_nil)))))
      (pss_one (ps_ret (pe_tup (pa_cons (pe_op op_mulS (pv 3) (pv 6)) (pa_cons (pe_callTy cn_tuple rfl T.n_tuple (by decide +kernel) (pa_cons (pe_lc (own := [("item", 7)]) (g := gName 7) rfl sc__law_press_spoiled.nd (pi_tup (pv 4)) (blkOk_by (N := ["draws", "found", "kind", "weight", "items", "some", "part", "item"]) (sc := (defScope s__law_press_spoiled)) (by decide +kernel)) (fun _ _ _ _ _ => pg_name (i := 7) sc__law_press_spoiled.nd rfl (Or.inl rfl)) (fun _ _ _ _ _ => pts_nil) (fun _ _ _ _ _ => (pe_tup (pa_cons (pe_ix (ix_seqZ (K := Z.K) rfl) (pv 7) pe_int (fun _ _ => rfl)) (pa_cons (pe_op op_mulS (pe_ix (ix_seqZ (K := Z.K) rfl) (pv 7) pe_int (fun _ _ => rfl)) (pv 6)) pa_nil))))) pa_nil)) pa_nil)))))) pss_nil)
      (pss_one (ps_ret (pe_tup (pa_cons (pv 3) (pa_cons (pe_h (E := ED E) h__law_spoiled hr (paW (takes_of rfl rfl rfl rfl)) (pa_cons (pv 0) (pa_cons (pv 4) pa_nil))) pa_nil)))))))))), ?_⟩
    try simp only [cxOf]
    obtain ⟨p, c, v, rfl, st, ⟨pv, w, wv, rfl, ev, ww, hw⟩, q⟩ := h
    walk_at "W"
    refine ⟨p, c, _, rfl, st, by decide, by unfold Bw; decide, fun kd H1 k0 k1 x1 st1 => ?_⟩
    have ev1 := (st.kps x1).tup ev
    have hw1 := hw.kps (st.kps x1)
    have hT1 : TOk Z H1 wv := hw1.t
    walk_at "W"
    refine k_tupl2 ev1 rfl rfl ?_
    walk_at "W"
    by_cases h0 : kd = 0
    · rw [decide_eq_true (by rw [h0])]
      repeat (first | walk_at "s" | walk_at "mul")
      refine ⟨w, rfl, ?_, ?_⟩
      · exact PySem.Flt.log2_lt_of (by decide) (show w.natAbs < 2 ^ 1920 from Nat.lt_of_lt_of_le (show w.natAbs < 2 ^ 2 from ww) (Nat.pow_le_pow_right (by decide) (by decide)))
      walk_at "W"
      refine k_mkRootI (by decide) (Bw.one.bd (by decide)) fun c0 H2 s2 hR => ?_
      repeat (first | walk_at "s" | walk_at "mul")
      refine k_lst rfl fun l3 H3 hl3 s3 e3 => ?_
      have n3 := (st1.same s2).new hl3
      have st3 := (st1.same s2).same s3
      walk_at "W"
      refine w_lenL (SqL.of e3) ?_
      walk_at "W"
      refine ⟨p, c, _, rfl, st3, (by show (0 : Int) < ((9 : Nat) : Int); decide), (by show ((9 : Nat) : Int).natAbs < 2 ^ 70; decide), fun n H4 n0 n1 x4 st4 => ?_⟩
      obtain ⟨j, rfl⟩ := Int.eq_ofNat_of_zero_le n0
      have j9 : j < 9 := by
        have : (j : Int) < 9 := n1
        omega
      have kl := st3.kl x4 st4
      have e4 := x4 _ _ n3.1 e3
      have X4 := x1.trans ((Same.x (s2.trans s3)).trans x4)
      have hT4 : TOk Z H4 wv := (hT1.kl (KL.same (s2.trans s3))).kl kl
      have num : ∀ {z : Int}, Bw 80 z → ∀ t5 H5, H4 t5 = none → Same H4 H5 → H5 t5 = some (.tup [.int z, wv]) → Q (.ref t5) H5 := fun {z} hz t5 H5 _ s5 e5 => q _ H5 (X4.trans (Same.x s5)) (st4.same s5) (.pr e5 hz (hT4.kl (KL.same s5)))
      have oth : ∀ {y : V}, Th Z.c_Root H4 y → isI y = false → ∀ t5 H5, H4 t5 = none → Same H4 H5 → H5 t5 = some (.tup [y, wv]) → Q (.ref t5) H5 := fun {y} hy ni t5 H5 _ s5 e5 => q _ H5 (X4.trans (Same.x s5)) (st4.same s5) (.two e5 (hy.kl (KL.same s5)) ni)
      have w80 : ∀ {z : Int}, Bw 5 z → Bw 80 z := fun h => h.mono (by decide)
      obtain ⟨ra, rdx, rfl, era⟩ := hR
      rcases (show j = 0 ∨ j = 1 ∨ j = 2 ∨ j = 3 ∨ j = 4 ∨ j = 5 ∨ j = 6 ∨ j = 7 ∨ j = 8 by omega) with rfl | rfl | rfl | rfl | rfl | rfl | rfl | rfl | rfl
      · refine w_ixL e4 rfl ?_
        walk_at "W"
        exact k_tup rfl (num (w80 ((ww.add Bw.one).mono (by decide))))
      · refine w_ixL e4 rfl ?_
        walk_at "W"
        exact k_tup rfl (num (w80 ((ww.sub Bw.one).mono (by decide))))
      · refine w_ixL e4 rfl ?_
        walk_at "W"
        exact k_tup rfl (num (w80 (ww.neg.mono (by decide))))
      · refine w_ixL e4 rfl ?_
        walk_at "W"
        exact k_tup rfl (oth (.bl _) rfl)
      · refine w_ixL e4 rfl ?_
        walk_at "W"
        exact k_tup rfl (oth (.str _) rfl)
      · refine w_ixL e4 rfl ?_
        walk_at "W"
        exact k_tup rfl (oth (Th.kl (.root ra rdx _ _ _ (s3 _ _ era)) kl) rfl)
      · refine w_ixL e4 rfl ?_
        walk_at "W"
        exact k_tup rfl (oth .non rfl)
      · refine w_ixL e4 rfl ?_
        walk_at "W"
        exact k_tup rfl (num (by unfold Bw; decide))
      · refine w_ixL e4 rfl ?_
        walk_at "W"
        exact k_tup rfl (num (w80 ((Bw.two.mul ww).mono (by decide))))
    rw [decide_eq_false (fun z => h0 (by injection z))]
    walk_at "W"
    by_cases h1 : kd = 1
    · rw [decide_eq_true (by rw [h1])]
      walk_at "W"
      refine k_lst rfl fun a1 H2 ha1 s2 e2 => ?_
      walk_at "W"
      refine k_tup rfl fun a2 H3 ha2 s3 e3 => ?_
      walk_at "W"
      refine k_tup rfl fun a3 H4 ha3 s4 e4 => ?_
      walk_at "W"
      refine k_tup rfl fun a4 H5 ha4 s5 e5 => ?_
      walk_at "W"
      refine k_lst rfl fun l6 H6 hl6 s6 e6 => ?_
      have S6 := s2.trans (s3.trans (s4.trans (s5.trans s6)))
      have st6 := st1.same S6
      have n6 := (st1.same (s2.trans (s3.trans (s4.trans s5)))).new hl6
      walk_at "W"
      refine ⟨p, c, _, rfl, st6, by decide, by unfold Bw; decide, fun n H7 n0 n1 x7 st7 => ?_⟩
      obtain ⟨j, rfl⟩ := Int.eq_ofNat_of_zero_le n0
      have j6 : j < 6 := by omega
      have kl := st6.kl x7 st7
      have e7 := x7 _ _ n6.1 e6
      have fin : ∀ {u : V}, POk Z H7 u → Q u H7 := fun h => q _ H7 (x1.trans ((Same.x S6).trans x7)) st7 h
      have hw7 := (hw1.kps (Kps.same S6)).kps kl.k
      obtain ⟨pw, zw, lw, rfl, epw, lpw, okw, l3w⟩ := hw7
      rcases (show j = 0 ∨ j = 1 ∨ j = 2 ∨ j = 3 ∨ j = 4 ∨ j = 5 by omega) with rfl | rfl | rfl | rfl | rfl | rfl
      · refine w_ixL e7 rfl (fin (.nt ?_))
        exact NT.kl (.inr (.inr (.inr (.inr (.inl ⟨a1, _, rfl, s6 _ _ (s5 _ _ (s4 _ _ (s3 _ _ e2)))⟩))))) kl
      · exact w_ixL e7 rfl (fin (.len (kl.k.tup (s6 _ _ (s5 _ _ (s4 _ _ e3)))) (by show 1 ≠ 2; decide)))
      · exact w_ixL e7 rfl (fin (.len (kl.k.tup (s6 _ _ (s5 _ _ e4))) (by show 3 ≠ 2; decide)))
      · exact w_ixL e7 rfl (fin (.two (kl.k.tup (s6 _ _ e5)) (.tup pw zw epw) rfl))
      · refine w_ixL e7 rfl (fin ?_)
        by_cases h2 : zw.length = 2
        · obtain ⟨y1, y2, rfl⟩ : ∃ y1 y2, zw = [y1, y2] := by
            rcases zw with _ | ⟨y1, _ | ⟨y2, _ | ⟨y3, zw⟩⟩⟩
            · cases h2
            · cases h2
            · exact ⟨y1, y2, rfl⟩
            · simp at h2
          obtain ⟨x1', ex1, p1, rfl, ep1⟩ := lpw.get (i := 0) rfl
          exact .two epw (.tup p1 _ ep1) rfl
        · exact .len epw h2
      · exact w_ixL e7 rfl (fin (.nt (.inl rfl)))
    rw [decide_eq_false (fun z => h1 (by injection z))]
    walk_at "W"
    by_cases h2 : kd = 2
    · rw [decide_eq_true (by rw [h2])]
      walk_at "W"
      refine ⟨p, c, _, rfl, st1, by decide, by unfold Bw; decide, fun n1 H2 n10 n11 x2 st2 => ?_⟩
      have n1x : n1 < 100000000000000000000 := n11
      have pw : Bw 70 (2 + n1) := by unfold Bw; omega
      have hw2 := hw1.kps (st1.kps x2)
      obtain ⟨pt, zs, l, rfl, ept, lp, okl, l3⟩ := hw2
      walk_at "W"
      refine w_I (bwm ww pw (by decide)) ?_
      walk_at "W"
      refine k_lcS (xs := zs) (fun n D H' => H2 D = none ∧ Same H2 H' ∧ ∃ ts, H' D = some (.lst ts) ∧ LsAt PrI H' ts ((l.take n).map fun x => (x.1, x.2 * (2 + n1)))) (SqT.of ept) (fun D hD => ⟨hD, Same.new hD, [], upd_same, LsAt.nil⟩) (fun n D H' h => SqT.of (h.2.1 _ _ ept)) ?_ ?_
      · rintro n y D H5 hy ⟨hD, s5, ts, eD, lt'⟩
        obtain ⟨x, ex, px, rfl, ep⟩ := lp.get hy
        have hx := okl x (List.mem_of_getElem? ex)
        refine ⟨rfl, w_yes (w_T rfl ?_)⟩
        walk_at "W"
        refine w_ixT (s5 _ _ ep) rfl ?_
        walk_at "W"
        refine w_ixT (s5 _ _ ep) rfl ?_
        walk_at "W"
        refine w_I (bwm hx.2.2 pw (by decide)) ?_
        walk_at "W"
        refine k_tup rfl fun t6 H6 ht6 s6 e6 => ?_
        have tl : ts.length ≤ 3 := by rw [lt'.1, List.length_map, List.length_take]; omega
        have eD6 := s6 _ _ eD
        have kp : ∀ {zs' : List V}, Kps H6 (upd H6 D (.lst zs')) := fun {zs'} => Kps.sx eD6 (SameX.upd fun _ _ _ e => e)
        refine ⟨ts, eD6, few_lt (by omega), hD, fun b o eb => ?_, _, upd_same, ?_⟩
        · rw [upd_ne (ne_of_none eb hD)]
          exact s6 _ _ (s5 _ _ eb)
        · rw [List.take_add_one, ex, List.map_append]
          exact LsAt.add (lt'.imp fun v x r => PrI.kps (PrI.kps r (Kps.same s6)) kp) (PrI.kps ⟨t6, rfl, e6⟩ kp)
      rintro D H5 ⟨hD, s5, ts, eD, lt'⟩
      rw [lp.1, List.take_length] at lt'
      walk_at "W"
      refine w_tupL eD fun t6 H6 ht6 s6 e6 => ?_
      walk_at "W"
      refine k_tup rfl fun t7 H7 ht7 s7 e7 => ?_
      refine q _ H7 (x1.trans (x2.trans (Same.x (s5.trans (s6.trans s7))))) (((st2.same s5).same s6).same s7) (.pr e7 ((ww.mul pw).mono (by decide)) (TOk.kl (.tup e6 (ItOk.prs (lt'.imp fun v x r => PrI.kps r (Kps.same s6)) fun x hx => ?_)) (KL.same s7)))
      obtain ⟨y, hy, rfl⟩ := List.mem_map.mp hx
      exact ((okl y hy).2.2.mul pw).mono (by decide)
    rw [decide_eq_false (fun z => h2 (by injection z))]
    walk_at "W"
    refine ⟨p, c, wv, rfl, st1, hw1, fun u H2 x2 st2 hu => ?_⟩
    walk_at "W"
    exact k_tup rfl fun t3 H3 ht3 s3 e3 => q _ H3 (x1.trans (x2.trans (Same.x s3))) (st2.same s3) (.pr e3 (ww.mono (by decide)) (hu.kl (KL.same s3)))
/-- what stands while things are made -/
structure I25 (Z : Zs) (H : Hp) (p c rl hl : Addr) (ws zs : List V) (xs : List Bn) (bx : Bn) (bv hbv fv : V) : Prop where
  st : St4 H p c
  rp : rl ≠ p
  hp : hl ≠ p
  er : H rl = some (.lst ws)
  lr : LsAt RwAt H ws xs
  eh : H hl = some (.lst zs)
  bh : BnsAt Z.c_Root H zs (xs.map lowN)
  rb : RwAt H bv bx
  hb : BnAt Z.c_Root H hbv (lowN bx)
  fd : FdV H fv
theorem I25.x {Z : Zs} {H H' : Hp} {p c rl hl : Addr} {ws zs : List V} {xs : List Bn} {bx : Bn} {bv hbv fv : V} (h : I25 Z H p c rl hl ws zs xs bx bv hbv fv) (x : SameX p H H') (s : St4 H' p c) : I25 Z H' p c rl hl ws zs xs bx bv hbv fv :=
  have k := h.st.kps x
  ⟨s, h.rp, h.hp, x _ _ h.rp h.er, h.lr.imp fun v x' r => r.kps k, x _ _ h.hp h.eh, h.bh.kps k, h.rb.kps k, h.hb.kps k, h.fd.kps k⟩
theorem I25.same {Z : Zs} {H H' : Hp} {p c rl hl : Addr} {ws zs : List V} {xs : List Bn} {bx : Bn} {bv hbv fv : V} (h : I25 Z H p c rl hl ws zs xs bx bv hbv fv) (s : Same H H') : I25 Z H' p c rl hl ws zs xs bx bv hbv fv := h.x (Same.x s) (h.st.same s)
theorem I25.put {Z : Zs} {H H' : Hp} {p c rl hl tl : Addr} {ws zs ts : List V} {xs : List Bn} {bx : Bn} {bv hbv fv : V} (h : I25 Z H p c rl hl ws zs xs bx bv hbv fv) (x : SameX tl H H') (et : H tl = some (.lst ts)) (n : tl ≠ p ∧ tl ≠ c ∧ tl ≠ rl ∧ tl ≠ hl) : I25 Z H' p c rl hl ws zs xs bx bv hbv fv := by
  have K := Kps.sx et x
  refine ⟨?_, h.rp, h.hp, x _ _ (Ne.symm n.2.2.1) h.er, h.lr.imp fun v x' r => r.kps K, x _ _ (Ne.symm n.2.2.2) h.eh, h.bh.kps K, h.rb.kps K, h.hb.kps K, h.fd.kps K⟩
  obtain ⟨ns', b1, b2, b3, g1, g2, g3⟩ := h.st
  exact ⟨ns', b1, b2, b3, x _ _ (Ne.symm n.1) g1, x _ _ (Ne.symm n.2.1) g2, g3⟩
abbrev s_law : Stmt := top 57
theorem sc_law : FnScope ["script", "draws", "rows", "bound", "handed", "handed_bound", "found", "things", "k", "thing", "told", "index"] ["script"] (defScope s_law) := ⟨rfl, rfl, rfl, by decide +kernel, rfl, by decide +kernel, by decide +kernel⟩

def sp_law (Z : Zs) : Sp := fun vs H Q E =>
  ∃ (a : Addr) (ns : List Int), vs = [.ref a] ∧ SqL Z.K H a (ns.map V.int) ∧ ∀ H', Q (.bl true) H'
theorem ok_law (T : Txt Z mg) (h__law_are_press : Has P w Z.K mg base "_law_are_press" 3 ["rows", "bound", "thing"] (sp__law_are_press Z)) (h_is_press : Has P w Z.K mg base "is_press" 9 ["bounds", "bound", "thing"] (sp_is_press Z)) (h__law_press_spoiled : Has P w Z.K mg base "_law_press_spoiled" 7 ["draws", "found"] (sp__law_press_spoiled Z)) (h__law_some_press : Has P w Z.K mg base "_law_some_press" 4 ["rows", "bound"] (sp__law_some_press Z)) (h__law_hand : Has P w Z.K mg base "_law_hand" 5 ["draws", "number"] (sp__law_hand Z)) (h__law_handed : Has P w Z.K mg base "_law_handed" 6 ["draws", "rows"] (sp__law_handed Z)) (h__law_bound_near : Has P w Z.K mg base "_law_bound_near" 4 ["draws", "rows"] (sp__law_bound_near Z)) (h__law_draw : Has P w Z.K mg base "_law_draw" 1 ["draws", "many"] (sp__law_draw Z)) (h__law_rows : Has P w Z.K mg base "_law_rows" 4 ["draws", "many"] (sp__law_rows Z)) (h__law_rows_round : Has P w Z.K mg base "_law_rows_round" 4 ["draws", "many"] (sp__law_rows_round Z)) (h__law_begin : Has P w Z.K mg base "_law_begin" 1 ["script"] (sp__law_begin Z)) {f : Addr} {fd : FuncData} (D : Fun Z.K "law" "law" s_law f fd) : FnOk P w Z.K mg base (L2.CX P w) 10 f fd ["script"] (sp_law Z) := by
  refine D.okX sc_law (fun vs H Q E h => ?_) (fun cdv A outer s H vs Q E hr h => ?_)
  · obtain ⟨a, ns, rfl, _⟩ := h
    rfl
  · refine ⟨_, (pss_cons (ps_set (i := 1) sc_law.nd rfl (Or.inl rfl) (pe_h (E := ED E) h__law_begin hr (paW (takes_of rfl rfl rfl rfl)) (pa_cons (pv 0) pa_nil)))
      (pss_cons (ps_set (i := 2) sc_law.nd rfl (Or.inl rfl) (pe_h (E := ED E) h__law_rows_round hr (paW (takes_of rfl rfl rfl rfl)) (pa_cons (pv 1) (pa_cons (pe_h (E := ED E) h__law_draw hr (paW (takes_of rfl rfl rfl rfl)) (pa_cons (pv 1) (pa_cons pe_int pa_nil))) pa_nil))))
      (C8.pss_cut (ps_if (pt_cmpR op_eq (pe_h (E := ED E) h__law_draw hr (paW (takes_of rfl rfl rfl rfl)) (pa_cons (pv 1) (pa_cons pe_int pa_nil))) pe_int (nomark _)) (pss_one (ps_set (i := 2) sc_law.nd rfl (Or.inl rfl) (pe_h (E := ED E) h__law_rows hr (paW (takes_of rfl rfl rfl rfl)) (pa_cons (pv 1) (pa_cons (pe_h (E := ED E) h__law_draw hr (paW (takes_of rfl rfl rfl rfl)) (pa_cons (pv 1) (pa_cons pe_int pa_nil))) pa_nil))))) pss_nil)
      (pss_cons (ps_set (i := 3) sc_law.nd rfl (Or.inl rfl) (pe_h (E := ED E) h__law_bound_near hr (paW (takes_of rfl rfl rfl rfl)) (pa_cons (pv 1) (pa_cons (pv 2) pa_nil))))
      (pss_cons (ps_set (i := 4) sc_law.nd rfl (Or.inl rfl) (pe_h (E := ED E) h__law_handed hr (paW (takes_of rfl rfl rfl rfl)) (pa_cons (pv 1) (pa_cons (pv 2) pa_nil))))
      (pss_cons (ps_set (i := 5) sc_law.nd rfl (Or.inl rfl) (pe_tup (pa_cons (pe_ix ix_seq (pv 3) pe_int (fun _ _ => rfl)) (pa_cons (pe_h (E := ED E) h__law_hand hr (paW (takes_of rfl rfl rfl rfl)) (pa_cons (pv 1) (pa_cons (pe_ix ix_seq (pv 3) pe_int (fun _ _ => rfl)) pa_nil))) pa_nil))))
      (pss_cons (ps_set (i := 6) sc_law.nd rfl (Or.inl rfl) (pe_h (E := ED E) h__law_some_press hr (paW (takes_of rfl rfl rfl rfl)) (pa_cons (pv 2) (pa_cons (pv 3) pa_nil))))
      (C8.pss_cut (ps_if (pt_cmpR op_isN (pv 6) pe_non (nomark _)) (pss_one (ps_set (i := 6) sc_law.nd rfl (Or.inl rfl) (pe_tup (pa_cons pe_int (pa_cons (pe_callTy cn_tuple rfl T.n_tuple (by decide +kernel) (pa_cons (pe_lc (own := [("index", 11)]) (g := gName 11) rfl sc_law.nd (pi_range1 rfl T.n_range (pa_cons (pe_callB (call_min2 rfl) rfl T.n_min (by decide +kernel) (pa_cons pe_int (pa_cons (pe_callB cn_len rfl T.n_len (by decide +kernel) (pa_cons (pv 2) pa_nil)) pa_nil))) pa_nil)) (blkOk_by (N := ["script", "draws", "rows", "bound", "handed", "handed_bound", "found", "things", "k", "thing", "told", "index"]) (sc := (defScope s_law)) (by decide +kernel)) (fun _ _ _ _ _ => pg_name (i := 11) sc_law.nd rfl (Or.inl rfl)) (fun _ _ _ _ _ => pts_nil) (fun _ _ _ _ _ => (pe_tup (pa_cons (pv 11) (pa_cons pe_int pa_nil))))) pa_nil)) pa_nil))))) pss_nil)
      (pss_cons (ps_set (i := 7) sc_law.nd rfl (Or.inl rfl) (pe_lst (pa_cons (pv 6) (pa_cons (pe_tup (pa_cons pe_int (pa_cons (pe_tup pa_nil) pa_nil))) (pa_cons (pe_tup pa_nil) pa_nil)))))
      (pss_cons (ps_for (passes_of rfl) rfl (pi_range1 rfl T.n_range (pa_cons pe_int pa_nil)) (pg_name (i := 8) sc_law.nd rfl (Or.inl rfl)) (pss_one (ps_expr (pe_bm PySem.F.plainAttrs_list PySem.F.slot_list_append PySem.F.type_list_append mt_append (pv 7) (pa_cons (pe_h (E := ED E) h__law_press_spoiled hr (paW (takes_of rfl rfl rfl rfl)) (pa_cons (pv 1) (pa_cons (pv 6) pa_nil))) pa_nil)))))
      (pss_cons (ps_for (passes_of rfl) rfl (pi_list (pv 7)) (pg_name (i := 9) sc_law.nd rfl (Or.inl rfl)) (pss_cons (ps_set (i := 10) sc_law.nd rfl (Or.inl rfl) (pe_h (E := ED E) h_is_press hr (paW (takes_of rfl rfl rfl rfl)) (pa_cons (pv 4) (pa_cons (pv 5) (pa_cons (pv 9) pa_nil)))))
      (pss_one (ps_if (PW.pt (pw_or (pt_not (pt_val (pe_callB call_isi rfl T.n_isinstance (by decide +kernel) (pa_cons (pv 10) (pa_cons (pe_bltn (v := .ty "bool") rfl T.n_bool (by decide +kernel) rfl) pa_nil))))) (pw_or1 (pt_cmpR op_ne (pv 10) (pe_h (E := ED E) h__law_are_press hr (paW (takes_of rfl rfl rfl rfl)) (pa_cons (pv 2) (pa_cons (pv 3) (pa_cons (pv 9) pa_nil)))) (nomark _))))) (pss_one (ps_ret pe_bl)) pss_nil))))
      (pss_one (ps_ret (pe_cmpR op_eq (pe_callB cn_len rfl T.n_len (by decide +kernel) (pa_cons (pv 4) pa_nil)) (pe_callB cn_len rfl T.n_len (by decide +kernel) (pa_cons (pv 2) pa_nil)) (nomark _))))))))))))))), ?_⟩
    try simp only [cxOf]
    obtain ⟨a, ns, rfl, hs, q⟩ := h
    walk_at "W"
    refine ⟨a, ns, rfl, hs, fun p c H1 hp s1 st1 => ?_⟩
    walk_at "W"
    refine ⟨p, c, _, rfl, st1, by decide, by unfold Bw; decide, fun k H2 k0 k1 x2 st2 => ?_⟩
    walk_at "W"
    refine ⟨p, c, _, rfl, st2, k0, by omega, fun rl ws xs H3 hrl x3 st3 er lr ok lx => ?_⟩
    have nrl := st2.new hrl
    walk_at "W"
    refine w_cut (fun σ' H' => ∃ (rl : Addr) (ws : List V) (xs : List Bn), σ' = some (.ref a) :: some (.ref p) :: some (.ref rl) :: List.replicate 9 none ∧ St4 H' p c ∧ rl ≠ p ∧ H' rl = some (.lst ws) ∧ LsAt RwAt H' ws xs ∧ (∀ x ∈ xs, x.d < 8 ∧ Nu.ok 106 31 (nuB x)) ∧ xs.length ≤ 10) ?_ ?_
    · walk_at "W"
      refine ⟨p, c, _, rfl, st3, by decide, by unfold Bw; decide, fun k' H4 k0' k1' x4 st4 => ?_⟩
      walk_at "W"
      by_cases hk : k' = 0
      · rw [decide_eq_true (by rw [hk])]
        walk_at "W"
        refine ⟨p, c, _, rfl, st4, by decide, by unfold Bw; decide, fun k2 H5 k20 k21 x5 st5 => ?_⟩
        walk_at "W"
        refine ⟨p, c, _, rfl, st5, k20, by omega, fun rl' ws' xs' H6 hrl' x6 st6 er' lr' ok' lx' => ?_⟩
        walk_at "W"
        exact ⟨rl', ws', xs', rfl, st6, (st5.new hrl').1, er', lr', fun x hx => ⟨(ok' x hx).1, (ok' x hx).2.mono (by decide) (by decide)⟩, by omega⟩
      · rw [decide_eq_false (fun z => hk (by injection z))]
        walk_at "W"
        exact ⟨rl, ws, xs, rfl, st4, nrl.1, x4 _ _ nrl.1 er, lr.imp fun v x r => r.kps (st3.kps x4), ok, by omega⟩
    clear er lr ok lx nrl hrl
    rintro σ1 H4 ⟨rl, ws, xs, rfl, st4, rp, er, lr, okr, lx⟩
    have ok2 : ∀ x ∈ xs, rw2 x := fun x hx => ⟨(okr x hx).1, (okr x hx).2.mono (by decide) (by decide)⟩
    walk_at "W"
    refine ⟨p, c, rl, ws, xs, rfl, st4, rp, er, lr, by omega, okr, fun bv bx H5 x5 st5 rb okb => ?_⟩
    have er5 := x5 _ _ rp er
    have lr5 := lr.imp fun v x r => r.kps (st4.kps x5)
    walk_at "W"
    refine ⟨p, c, rl, ws, xs, rfl, st5, rp, er5, lr5, by omega, rw2.l ok2, fun hl zs H6 hhl x6 st6 eh bh => ?_⟩
    have nhl := st5.new hhl
    have er6 := x6 _ _ rp er5
    have lr6 := lr5.imp fun v x r => r.kps (st5.kps x6)
    have nrh : rl ≠ hl := fun z => by rw [← z, er5] at hhl; cases hhl
    have rb6 := rb.kps (st5.kps x6)
    have rb6' := rb6
    obtain ⟨pb, yb, rfl, epb, nyb⟩ := rb6'
    walk_at "W"
    try refine w_ixT epb rfl ?_
    refine ⟨p, c, _, nuB bx, rfl, st6, nyb, okb.2.mono (by decide) (by decide), fun hv H7 x7 st7 hbh => ?_⟩
    have K67 := st6.kps x7
    walk_at "W"
    refine k_tup rfl fun bt H8 hbt s8 e8 => ?_
    have mb := Sm.low (t := bx.t) (r := bx.r) (b := bx.b) (Int.ne_of_gt okb.2.1) (okb.2.2.1.mono (by decide)) (okb.2.2.2.1.mono (by decide)) (okb.2.2.2.2.mono (by decide))
    have hb8 : BnAt Z.c_Root H8 (.ref bt) (lowN bx) := ⟨bt, hv, rfl, e8, LoAt.kps (n := nuB bx) hbh (Kps.same s8), mb⟩
    have K68 := K67.trans (Kps.same s8)
    have x68 := x7.trans (Same.x s8)
    have st8 := st7.same s8
    have er8 := x68 _ _ rp er6
    have lr8 := lr6.imp fun v x r => r.kps K68
    walk_at "W"
    refine ⟨rl, ws, xs, _, bx, rfl, er8, lr8, ok2, by omega, rb6.kps K68, okb, fun wv H9 s9 hw => ?_⟩
    walk_at "W"
    have wl : ws.length ≤ 10 := by rw [lr.1]; exact lx
    refine w_cut (fun σ' H' => ∃ wv, σ' = some (.ref a) :: some (.ref p) :: some (.ref rl) :: some (.ref pb) :: some (.ref hl) :: some (.ref bt) :: some wv :: List.replicate 5 none ∧ I25 Z H' p c rl hl ws zs xs bx (.ref pb) (.ref bt) wv) ?_ ?_
    · walk_at "W"
      have mk : ∀ {H' : Hp} {v : V}, Same H9 H' → FdV H' v → I25 Z H' p c rl hl ws zs xs bx (.ref pb) (.ref bt) v := fun {H' v} s h => ⟨(st8.same s9).same s, rp, nhl.1, s _ _ (s9 _ _ er8), lr8.imp fun v x r => r.kps (Kps.same (s9.trans s)), s _ _ (s9 _ _ (x68 _ _ nhl.1 eh)), (bh.kps K68).kps (Kps.same (s9.trans s)), (rb6.kps K68).kps (Kps.same (s9.trans s)), hb8.kps (Kps.same (s9.trans s)), h⟩
      rcases hw with rfl | hw
      · refine ⟨rfl, ?_⟩
        walk_at "W"
        refine w_lenL (SqL.of (s9 _ _ er8)) ?_
        refine ⟨_, _, rfl, ?_⟩
        have mn : ∃ M : Nat, (if ((ws.length : Nat) : Int) < 1 then ((ws.length : Nat) : Int) else 1) = (M : Int) ∧ M ≤ 1 := by
          by_cases h : ((ws.length : Nat) : Int) < 1
          · exact ⟨ws.length, if_pos h, by omega⟩
          · exact ⟨1, if_neg h, Nat.le_refl _⟩
        obtain ⟨M, eM, M2⟩ := mn
        rw [eM]
        walk_at "W"
        refine k_lcR (fun i D H' => H9 D = none ∧ Same H9 H' ∧ ∃ ts l, H' D = some (.lst ts) ∧ LsAt PrI H' ts l ∧ (∀ x ∈ l, 0 ≤ x.1 ∧ x.1 < 400 ∧ Bw 2 x.2) ∧ l.length = i) (by omega) (by omega) (fun D hD => ⟨hD, Same.new hD, [], [], upd_same, LsAt.nil, (fun x h => by cases h), rfl⟩) ?_ ?_
        · rintro i D HA hi ⟨hD, sA, ts, l, eD, lt', okl, ll⟩
          have iM : i < 1 := by omega
          refine ⟨rfl, w_yes (w_T rfl ?_)⟩
          walk_at "W"
          refine k_tup rfl fun tB HB htB sB eB => ?_
          have tl : ts.length ≤ 2 := by rw [lt'.1, ll]; omega
          have eDB := sB _ _ eD
          have kp : ∀ {zs' : List V}, Kps HB (upd HB D (.lst zs')) := fun {zs'} => Kps.sx eDB (SameX.upd fun _ _ _ e => e)
          refine ⟨ts, eDB, few_lt (by omega), hD, fun b o eb => ?_, _, l ++ [(0 + (i : Int), 1)], upd_same, ?_, fun x hx => ?_, by simp [ll]⟩
          · rw [upd_ne (ne_of_none eb hD)]
            exact sB _ _ (sA _ _ eb)
          · exact LsAt.add (lt'.imp fun v x r => PrI.kps (PrI.kps r (Kps.same sB)) kp) (PrI.kps ⟨tB, rfl, eB⟩ kp)
          · rcases List.mem_append.mp hx with h | h
            · exact okl x h
            · rw [List.mem_singleton.mp h]
              exact ⟨by show (0 : Int) ≤ 0 + (i : Int); omega, by show 0 + (i : Int) < 400; omega, (by show (1 : Int).natAbs < 2 ^ 2; decide)⟩
        rintro D HA ⟨hD, sA, ts, l, eD, lt', okl, ll⟩
        walk_at "W"
        refine w_tupL eD fun tB HB htB sB eB => ?_
        walk_at "W"
        refine k_tup rfl fun tC HC htC sC eC => ?_
        walk_at "W"
        exact ⟨.ref tC, rfl, mk (sA.trans (sB.trans sC)) ⟨tC, 1, .ref tB, rfl, eC, by unfold Bw; decide, tB, ts, l, rfl, sC _ _ eB, lt'.imp fun v x r => PrI.kps r (Kps.same (sB.trans sC)), okl, by omega⟩⟩
      · have hw' := hw
        obtain ⟨pw, zw, lw, rfl, epw, -⟩ := hw'
        refine ⟨rfl, ?_⟩
        walk_at "W"
        exact ⟨_, rfl, mk (Same.refl _) hw⟩
    rintro σ3 HA ⟨wv, rfl, IA⟩
    walk_at "W"
    refine k_tup rfl fun t1 HB ht1 sB e1 => ?_
    walk_at "W"
    refine k_tup rfl fun t2 HC ht2 sC e2 => ?_
    walk_at "W"
    refine k_tup rfl fun t3 HD ht3 sD e3 => ?_
    walk_at "W"
    refine k_lst rfl fun tl HE htl sE eE => ?_
    have ID := IA.same (sB.trans (sC.trans sD))
    have IE := ID.same sE
    have ntl : tl ≠ p ∧ tl ≠ c ∧ tl ≠ rl ∧ tl ≠ hl := ⟨(ID.st.new htl).1, (ID.st.new htl).2, (fun z => by rw [z, ID.er] at htl; cases htl), (fun z => by rw [z, ID.eh] at htl; cases htl)⟩
    have hT0 : ∀ v ∈ [wv, .ref t2, .ref t3], POk Z HE v := fun v hv => by
      simp only [List.mem_cons, List.not_mem_nil, or_false] at hv
      rcases hv with rfl | rfl | rfl
      · exact IE.fd.t
      · exact .pr (sE _ _ (sD _ _ e2)) (by unfold Bw; decide) (.tup (sE _ _ (sD _ _ (sC _ _ e1))) fun v hv => by cases hv)
      · exact .len (sE _ _ e3) (by simp)
    walk_at "W"
    refine k_forR (fun i σ' H' => (∃ y8 y9 yA yB ts, σ' = [some (.ref a), some (.ref p), some (.ref rl), some (.ref pb), some (.ref hl), some (.ref bt), some wv, some (.ref tl), y8, y9, yA, yB] ∧ H' tl = some (.lst ts) ∧ ts.length = 3 + i ∧ ∀ v ∈ ts, POk Z H' v) ∧ I25 Z H' p c rl hl ws zs xs bx (.ref pb) (.ref bt) wv) (by decide) (by decide) ⟨⟨_, _, _, _, _, rfl, eE, rfl, hT0⟩, IE⟩ ?_ ?_
    · rintro i σ' HF hi ⟨⟨y8, y9, yA, yB, ts, rfl, eF, lF, okF⟩, IF⟩
      have i6 : i < 6 := hi
      walk_at "W"
      refine k_bm eF ?_
      walk_at "W"
      refine ⟨p, c, wv, rfl, IF.st, IF.fd, fun u HG xG stG hu => ?_⟩
      have IG := IF.x xG stG
      have eG := xG _ _ ntl.1 eF
      walk_at "W"
      refine w_app eG (few_lt (by omega)) fun HH xH kH eH => ?_
      have kl : KL HF HG := IF.st.kl xG stG
      have kl2 : KL HG HH := KL.sx eG xH eH
      walk_at "W"
      refine ⟨⟨_, _, _, _, _, rfl, eH, by simp; omega, fun v hv => ?_⟩, IG.put xH eG ntl⟩
      rcases List.mem_append.mp hv with h | h
      · exact ((okF v h).kl kl).kl kl2
      · rw [List.mem_singleton.mp h]
        exact hu.kl kl2
    rintro σ4 HF ⟨⟨y8, y9, yA, yB, ts, rfl, eF, lF, okF⟩, IF⟩
    walk_at "W"
    refine k_forL (xs := ts) (fun i σ' H' => (∃ y8 y9 yA yB, σ' = [some (.ref a), some (.ref p), some (.ref rl), some (.ref pb), some (.ref hl), some (.ref bt), some wv, some (.ref tl), y8, y9, yA, yB]) ∧ Same HF H') (SqL.of eF) ⟨⟨_, _, _, _, rfl⟩, Same.refl _⟩ (fun i σ' H' h => SqL.of (h.2 _ _ eF)) ?_ ?_
    · rintro i v σ' HG hv ⟨⟨y8, y9, yA, yB, rfl⟩, sG⟩
      have IG := IF.same sG
      obtain ⟨o, hP, hO⟩ := (okF v (List.mem_of_getElem? hv)).kl (KL.same sG)
      have zl : zs.length ≤ 400 := by rw [bh.1, List.length_map]; omega
      walk_at "W"
      refine ⟨hl, zs, xs, _, v, bx, o, rfl, IG.eh, zl, IG.bh, ok2, IG.hb, okb, hP, hO, fun HH sH => ?_⟩
      have IH := IG.same sH
      walk_at "W"
      refine w_isi (b := true) (.base (.bl _)) (kit_ty (by decide +kernel)) ?_
      walk_at "W"
      refine ⟨rl, ws, xs, _, v, bx, o, rfl, IH.er, IH.lr, ok2, IH.rb, okb, hP.kl (KL.same sH), hO, fun HI sI => ?_⟩
      walk_at "W"
      first | exact ⟨⟨_, _, _, _, rfl⟩, sG.trans (sH.trans sI)⟩ | (rw [decide_eq_true rfl]; walk_at "W"; exact ⟨⟨_, _, _, _, rfl⟩, sG.trans (sH.trans sI)⟩)
    rintro σ5 HG ⟨⟨y8, y9, yA, yB, rfl⟩, sG⟩
    have IG := IF.same sG
    walk_at "W"
    refine w_lenL (SqL.of IG.eh) ?_
    walk_at "W"
    refine w_lenL (SqL.of IG.er) ?_
    walk_at "W"
    rw [decide_eq_true (show V.int ((zs.length : Nat) : Int) = V.int ((ws.length : Nat) : Int) by rw [IG.lr.1, IG.bh.1, List.length_map])]
    exact q HG
def spTop (K : PySem.W.Frag) : Sp := fun vs H Q E => ∃ (a : Addr) (ns : List Int), vs = [.ref a] ∧ SqL K H a (ns.map V.int) ∧ ∀ H', Q (.bl true) H'
theorem all_mk {P : Program} {w : World} {K : PySem.W.Frag} {h : Heap} {mg : Str → Option Value} {fa : Addr} (X : K.In h) (G : h.Ns mainGlobals mg) (hfa : mg "law" = some (.ref fa))
    {c_FloorError c_BadNumber c_BadBounds c_Root c_VECTORS : Addr}
    {gAX : Addr}
{gSX : Addr}
{gMX : Addr}
{nmBadNumber qBadNumber : Str} {NBadNumber : Addr} {bsBadNumber : List Value} {snBadNumber : List Str} {subBadNumber : List Value} {abBadNumber : Bool} {colBadNumber : Option Bool} {ddBadNumber : Option Addr} {m0BadNumber m1BadNumber m2BadNumber m3BadNumber m5BadNumber : Option Value}
{nmBadBounds qBadBounds : Str} {NBadBounds : Addr} {bsBadBounds : List Value} {snBadBounds : List Str} {subBadBounds : List Value} {abBadBounds : Bool} {colBadBounds : Option Bool} {ddBadBounds : Option Addr} {m0BadBounds m1BadBounds m2BadBounds m3BadBounds m5BadBounds : Option Value}
    {f_is_integral : Addr} {od_is_integral an_is_integral : Option Addr} {sl_is_integral : Array (Option Value)} {oc_is_integral kV_is_integral dc_is_integral pm_is_integral cd_is_integral ct_is_integral : Value}
    {f_BadBounds_init : Addr} {od_BadBounds_init an_BadBounds_init : Option Addr} {sl_BadBounds_init : Array (Option Value)} {oc_BadBounds_init kV_BadBounds_init dc_BadBounds_init pm_BadBounds_init cd_BadBounds_init ct_BadBounds_init : Value}
    {f_BadNumber_init : Addr} {od_BadNumber_init an_BadNumber_init : Option Addr} {sl_BadNumber_init : Array (Option Value)} {oc_BadNumber_init kV_BadNumber_init dc_BadNumber_init pm_BadNumber_init cd_BadNumber_init ct_BadNumber_init : Value}
    {f_Root_init : Addr} {od_Root_init an_Root_init : Option Addr} {sl_Root_init : Array (Option Value)} {oc_Root_init kV_Root_init dc_Root_init pm_Root_init cd_Root_init ct_Root_init : Value}
    {f_Root_eq : Addr} {od_Root_eq an_Root_eq : Option Addr} {sl_Root_eq : Array (Option Value)} {oc_Root_eq kV_Root_eq dc_Root_eq pm_Root_eq cd_Root_eq ct_Root_eq : Value}
    {f_Root_neg : Addr} {od_Root_neg an_Root_neg : Option Addr} {sl_Root_neg : Array (Option Value)} {oc_Root_neg kV_Root_neg dc_Root_neg pm_Root_neg cd_Root_neg ct_Root_neg : Value}
    {f_is_number : Addr} {od_is_number an_is_number : Option Addr} {sl_is_number : Array (Option Value)} {oc_is_number kV_is_number dc_is_number pm_is_number cd_is_number ct_is_number : Value}
    {f_as_root : Addr} {od_as_root an_as_root : Option Addr} {sl_as_root : Array (Option Value)} {oc_as_root kV_as_root dc_as_root pm_as_root cd_as_root ct_as_root : Value}
    {f_surd_sign : Addr} {od_surd_sign an_surd_sign : Option Addr} {sl_surd_sign : Array (Option Value)} {oc_surd_sign kV_surd_sign dc_surd_sign pm_surd_sign cd_surd_sign ct_surd_sign : Value}
    {f_Root_add : Addr} {od_Root_add an_Root_add : Option Addr} {sl_Root_add : Array (Option Value)} {oc_Root_add kV_Root_add dc_Root_add pm_Root_add cd_Root_add ct_Root_add : Value}
    {f_Root_sub : Addr} {od_Root_sub an_Root_sub : Option Addr} {sl_Root_sub : Array (Option Value)} {oc_Root_sub kV_Root_sub dc_Root_sub pm_Root_sub cd_Root_sub ct_Root_sub : Value}
    {f_Root_mul : Addr} {od_Root_mul an_Root_mul : Option Addr} {sl_Root_mul : Array (Option Value)} {oc_Root_mul kV_Root_mul dc_Root_mul pm_Root_mul cd_Root_mul ct_Root_mul : Value}
    {f_Root_radd : Addr} {od_Root_radd an_Root_radd : Option Addr} {sl_Root_radd : Array (Option Value)} {oc_Root_radd kV_Root_radd dc_Root_radd pm_Root_radd cd_Root_radd ct_Root_radd : Value}
    {f_Root_rmul : Addr} {od_Root_rmul an_Root_rmul : Option Addr} {sl_Root_rmul : Array (Option Value)} {oc_Root_rmul kV_Root_rmul dc_Root_rmul pm_Root_rmul cd_Root_rmul ct_Root_rmul : Value}
    {f_Root_rsub : Addr} {od_Root_rsub an_Root_rsub : Option Addr} {sl_Root_rsub : Array (Option Value)} {oc_Root_rsub kV_Root_rsub dc_Root_rsub pm_Root_rsub cd_Root_rsub ct_Root_rsub : Value}
    {f_Root_less : Addr} {od_Root_less an_Root_less : Option Addr} {sl_Root_less : Array (Option Value)} {oc_Root_less kV_Root_less dc_Root_less pm_Root_less cd_Root_less ct_Root_less : Value}
    {f_Root_sign : Addr} {od_Root_sign an_Root_sign : Option Addr} {sl_Root_sign : Array (Option Value)} {oc_Root_sign kV_Root_sign dc_Root_sign pm_Root_sign cd_Root_sign ct_Root_sign : Value}
    {f_is_bound : Addr} {od_is_bound an_is_bound : Option Addr} {sl_is_bound : Array (Option Value)} {oc_is_bound kV_is_bound dc_is_bound pm_is_bound cd_is_bound ct_is_bound : Value}
    {f_check_bounds : Addr} {od_check_bounds an_check_bounds : Option Addr} {sl_check_bounds : Array (Option Value)} {oc_check_bounds kV_check_bounds dc_check_bounds pm_check_bounds cd_check_bounds ct_check_bounds : Value}
    {f__law_begin : Addr} {od__law_begin an__law_begin : Option Addr} {sl__law_begin : Array (Option Value)} {oc__law_begin kV__law_begin dc__law_begin pm__law_begin cd__law_begin ct__law_begin : Value}
    {f__law_draw : Addr} {od__law_draw an__law_draw : Option Addr} {sl__law_draw : Array (Option Value)} {oc__law_draw kV__law_draw dc__law_draw pm__law_draw cd__law_draw ct__law_draw : Value}
    {f__law_great : Addr} {od__law_great an__law_great : Option Addr} {sl__law_great : Array (Option Value)} {oc__law_great kV__law_great dc__law_great pm__law_great cd__law_great ct__law_great : Value}
    {f__law_number : Addr} {od__law_number an__law_number : Option Addr} {sl__law_number : Array (Option Value)} {oc__law_number kV__law_number dc__law_number pm__law_number cd__law_number ct__law_number : Value}
    {f__law_plus : Addr} {od__law_plus an__law_plus : Option Addr} {sl__law_plus : Array (Option Value)} {oc__law_plus kV__law_plus dc__law_plus pm__law_plus cd__law_plus ct__law_plus : Value}
    {f__law_scaled : Addr} {od__law_scaled an__law_scaled : Option Addr} {sl__law_scaled : Array (Option Value)} {oc__law_scaled kV__law_scaled dc__law_scaled pm__law_scaled cd__law_scaled ct__law_scaled : Value}
    {f__law_sign : Addr} {od__law_sign an__law_sign : Option Addr} {sl__law_sign : Array (Option Value)} {oc__law_sign kV__law_sign dc__law_sign pm__law_sign cd__law_sign ct__law_sign : Value}
    {f__law_compare : Addr} {od__law_compare an__law_compare : Option Addr} {sl__law_compare : Array (Option Value)} {oc__law_compare kV__law_compare dc__law_compare pm__law_compare cd__law_compare ct__law_compare : Value}
    {f__law_hand : Addr} {od__law_hand an__law_hand : Option Addr} {sl__law_hand : Array (Option Value)} {oc__law_hand kV__law_hand dc__law_hand pm__law_hand cd__law_hand ct__law_hand : Value}
    {f__law_handed : Addr} {od__law_handed an__law_handed : Option Addr} {sl__law_handed : Array (Option Value)} {oc__law_handed kV__law_handed dc__law_handed pm__law_handed cd__law_handed ct__law_handed : Value}
    {f__law_vector : Addr} {od__law_vector an__law_vector : Option Addr} {sl__law_vector : Array (Option Value)} {oc__law_vector kV__law_vector dc__law_vector pm__law_vector cd__law_vector ct__law_vector : Value}
    {f__law_along : Addr} {od__law_along an__law_along : Option Addr} {sl__law_along : Array (Option Value)} {oc__law_along kV__law_along dc__law_along pm__law_along cd__law_along ct__law_along : Value}
    {f__law_lets : Addr} {od__law_lets an__law_lets : Option Addr} {sl__law_lets : Array (Option Value)} {oc__law_lets kV__law_lets dc__law_lets pm__law_lets cd__law_lets ct__law_lets : Value}
    {f__law_in_all : Addr} {od__law_in_all an__law_in_all : Option Addr} {sl__law_in_all : Array (Option Value)} {oc__law_in_all kV__law_in_all dc__law_in_all pm__law_in_all cd__law_in_all ct__law_in_all : Value}
    {f__law_rows : Addr} {od__law_rows an__law_rows : Option Addr} {sl__law_rows : Array (Option Value)} {oc__law_rows kV__law_rows dc__law_rows pm__law_rows cd__law_rows ct__law_rows : Value}
    {f__law_width : Addr} {od__law_width an__law_width : Option Addr} {sl__law_width : Array (Option Value)} {oc__law_width kV__law_width dc__law_width pm__law_width cd__law_width ct__law_width : Value}
    {f__law_rows_round : Addr} {od__law_rows_round an__law_rows_round : Option Addr} {sl__law_rows_round : Array (Option Value)} {oc__law_rows_round kV__law_rows_round dc__law_rows_round pm__law_rows_round cd__law_rows_round ct__law_rows_round : Value}
    {f__law_cross : Addr} {od__law_cross an__law_cross : Option Addr} {sl__law_cross : Array (Option Value)} {oc__law_cross kV__law_cross dc__law_cross pm__law_cross cd__law_cross ct__law_cross : Value}
    {f__law_least : Addr} {od__law_least an__law_least : Option Addr} {sl__law_least : Array (Option Value)} {oc__law_least kV__law_least dc__law_least pm__law_least cd__law_least ct__law_least : Value}
    {f__law_is_integer : Addr} {od__law_is_integer an__law_is_integer : Option Addr} {sl__law_is_integer : Array (Option Value)} {oc__law_is_integer kV__law_is_integer dc__law_is_integer pm__law_is_integer cd__law_is_integer ct__law_is_integer : Value}
    {f_is_rest : Addr} {od_is_rest an_is_rest : Option Addr} {sl_is_rest : Array (Option Value)} {oc_is_rest kV_is_rest dc_is_rest pm_is_rest cd_is_rest ct_is_rest : Value}
    {f_rest_sum : Addr} {od_rest_sum an_rest_sum : Option Addr} {sl_rest_sum : Array (Option Value)} {oc_rest_sum kV_rest_sum dc_rest_sum pm_rest_sum cd_rest_sum ct_rest_sum : Value}
    {f__law_are_weights : Addr} {od__law_are_weights an__law_are_weights : Option Addr} {sl__law_are_weights : Array (Option Value)} {oc__law_are_weights kV__law_are_weights dc__law_are_weights pm__law_are_weights cd__law_are_weights ct__law_are_weights : Value}
    {f__law_weighed : Addr} {od__law_weighed an__law_weighed : Option Addr} {sl__law_weighed : Array (Option Value)} {oc__law_weighed kV__law_weighed dc__law_weighed pm__law_weighed cd__law_weighed ct__law_weighed : Value}
    {f__law_are_bars : Addr} {od__law_are_bars an__law_are_bars : Option Addr} {sl__law_are_bars : Array (Option Value)} {oc__law_are_bars kV__law_are_bars dc__law_are_bars pm__law_are_bars cd__law_are_bars ct__law_are_bars : Value}
    {f__law_over : Addr} {od__law_over an__law_over : Option Addr} {sl__law_over : Array (Option Value)} {oc__law_over kV__law_over dc__law_over pm__law_over cd__law_over ct__law_over : Value}
    {f__law_closing : Addr} {od__law_closing an__law_closing : Option Addr} {sl__law_closing : Array (Option Value)} {oc__law_closing kV__law_closing dc__law_closing pm__law_closing cd__law_closing ct__law_closing : Value}
    {f__law_indexes : Addr} {od__law_indexes an__law_indexes : Option Addr} {sl__law_indexes : Array (Option Value)} {oc__law_indexes kV__law_indexes dc__law_indexes pm__law_indexes cd__law_indexes ct__law_indexes : Value}
    {f__law_as_weights : Addr} {od__law_as_weights an__law_as_weights : Option Addr} {sl__law_as_weights : Array (Option Value)} {oc__law_as_weights kV__law_as_weights dc__law_as_weights pm__law_as_weights cd__law_as_weights ct__law_as_weights : Value}
    {f__law_item_spoiled : Addr} {od__law_item_spoiled an__law_item_spoiled : Option Addr} {sl__law_item_spoiled : Array (Option Value)} {oc__law_item_spoiled kV__law_item_spoiled dc__law_item_spoiled pm__law_item_spoiled cd__law_item_spoiled ct__law_item_spoiled : Value}
    {f__law_spoiled : Addr} {od__law_spoiled an__law_spoiled : Option Addr} {sl__law_spoiled : Array (Option Value)} {oc__law_spoiled kV__law_spoiled dc__law_spoiled pm__law_spoiled cd__law_spoiled ct__law_spoiled : Value}
    {f_check_bound : Addr} {od_check_bound an_check_bound : Option Addr} {sl_check_bound : Array (Option Value)} {oc_check_bound kV_check_bound dc_check_bound pm_check_bound cd_check_bound ct_check_bound : Value}
    {f_is_press : Addr} {od_is_press an_is_press : Option Addr} {sl_is_press : Array (Option Value)} {oc_is_press kV_is_press dc_is_press pm_is_press cd_is_press ct_is_press : Value}
    {f__law_are_press : Addr} {od__law_are_press an__law_are_press : Option Addr} {sl__law_are_press : Array (Option Value)} {oc__law_are_press kV__law_are_press dc__law_are_press pm__law_are_press cd__law_are_press ct__law_are_press : Value}
    {f__law_some_press : Addr} {od__law_some_press an__law_some_press : Option Addr} {sl__law_some_press : Array (Option Value)} {oc__law_some_press kV__law_some_press dc__law_some_press pm__law_some_press cd__law_some_press ct__law_some_press : Value}
    {f__law_bound_near : Addr} {od__law_bound_near an__law_bound_near : Option Addr} {sl__law_bound_near : Array (Option Value)} {oc__law_bound_near kV__law_bound_near dc__law_bound_near pm__law_bound_near cd__law_bound_near ct__law_bound_near : Value}
    {f__law_press_spoiled : Addr} {od__law_press_spoiled an__law_press_spoiled : Option Addr} {sl__law_press_spoiled : Array (Option Value)} {oc__law_press_spoiled kV__law_press_spoiled dc__law_press_spoiled pm__law_press_spoiled cd__law_press_spoiled ct__law_press_spoiled : Value}
    {f_law : Addr} {od_law an_law : Option Addr} {sl_law : Array (Option Value)} {oc_law kV_law dc_law pm_law cd_law ct_law : Value}
    (gi_MOST_BOUNDS : isIntV (PySem.W.nsIn K mainGlobals "MOST_BOUNDS") 400 = true)
    (r_VECTORS : PySem.W.nsIn K mainGlobals "VECTORS" = some (some (.ref c_VECTORS)))
    (kd_VECTORS : kdB K 8 (.ref c_VECTORS) (.tuple [.tuple [.int 1, .int 0], .tuple [.int 1, .int 1], .tuple [.int 0, .int 1], .tuple [.int (-1), .int 1], .tuple [.int (-1), .int 0], .tuple [.int (-1), .int (-1)], .tuple [.int 0, .int (-1)], .tuple [.int 1, .int (-1)]]) = true)
    (r_FloorError : PySem.W.nsIn K mainGlobals "FloorError" = some (some (.ref c_FloorError)))
    (r_BadNumber : PySem.W.nsIn K mainGlobals "BadNumber" = some (some (.ref c_BadNumber)))
    (r_BadBounds : PySem.W.nsIn K mainGlobals "BadBounds" = some (some (.ref c_BadBounds)))
    (r_Root : PySem.W.nsIn K mainGlobals "Root" = some (some (.ref c_Root)))
    (r_gcd : PySem.W.nsIn K mainGlobals "gcd" = some (some (.builtin "math.gcd")))
    (r_isinstance : PySem.W.nsIn K mainGlobals "isinstance" = some none)
    (r_len : PySem.W.nsIn K mainGlobals "len" = some none)
    (r_tuple : PySem.W.nsIn K mainGlobals "tuple" = some none)
    (r_enumerate : PySem.W.nsIn K mainGlobals "enumerate" = some none)
    (r_list : PySem.W.nsIn K mainGlobals "list" = some none)
    (r_int : PySem.W.nsIn K mainGlobals "int" = some none)
    (r_range : PySem.W.nsIn K mainGlobals "range" = some none)
    (r_bool : PySem.W.nsIn K mainGlobals "bool" = some none)
    (r_sorted : PySem.W.nsIn K mainGlobals "sorted" = some none)
    (r_str : PySem.W.nsIn K mainGlobals "str" = some none)
    (r_max : PySem.W.nsIn K mainGlobals "max" = some none)
    (r_abs : PySem.W.nsIn K mainGlobals "abs" = some none)
    (r_min : PySem.W.nsIn K mainGlobals "min" = some none)
    (r_pg : PySem.W.plainGet K c_Root Str.empty = true)
    (r_hd : PySem.W.hasDictIn K c_Root = true)
    (r_po : PySem.W.plainOver K c_Root = true)
    (r_sa : PySem.W.findIn K (.ref c_Root) "__setattr__" = some (some (.builtin "object.__setattr__")))
    (r_ca : PySem.W.findIn K (.ref c_Root) "__class__" = some (some (.builtin "object.__class__")))
    (r_hm : PySem.W.mroIn K c_Root (.type "object") = some true)
    (r_ic : PySem.W.isClsIn K c_Root = true)
    (r_tc : PySem.W.typeIn K (.ref c_Root) = some (.type "type"))
    (r_s1 : PySem.W.mroIn K c_Root (.type "int") = some false)
    (r_s2 : PySem.W.mroIn K c_Root (.type "bool") = some false)
    (r_nt : PySem.W.findIn K (.ref c_Root) "top" = some none)
    (r_nr : PySem.W.findIn K (.ref c_Root) "root" = some none)
    (r_nb : PySem.W.findIn K (.ref c_Root) "bottom" = some none)
    (r_sf : PySem.W.selfFirst K c_Root = true)
    (r_ra : PySem.W.findIn K (.ref c_Root) "__radd__" = some (some (.ref gAX)))
    (r_rs : PySem.W.findIn K (.ref c_Root) "__rsub__" = some (some (.ref gSX)))
    (r_rm : PySem.W.findIn K (.ref c_Root) "__rmul__" = some (some (.ref gMX)))
    (e_L_BadNumber : K.lookup c_BadNumber = some (excClassObj nmBadNumber qBadNumber c_BadNumber NBadNumber bsBadNumber [.ref c_FloorError, .type "ValueError", .type "Exception", .type "BaseException", .type "object"] true snBadNumber subBadNumber abBadNumber colBadNumber ddBadNumber m0BadNumber m1BadNumber m2BadNumber m3BadNumber m5BadNumber "ValueError.__new__"))
    (e_sa_BadNumber : PySem.W.findIn K (.ref c_BadNumber) "__setattr__" = some (some (.builtin "object.__setattr__")))
    (e_e_BadNumber : PySem.W.mroIn K c_BadNumber (.type "BaseException") = some true)
    (e_t_BadNumber : PySem.W.typeIn K (.ref c_BadNumber) = some (.type "type"))
    (e_k_BadNumber : PySem.W.keepIn K (.ref c_BadNumber) = true)
    (e_n_BadNumber : PySem.W.findIn K (.ref c_BadNumber) "value" = some none)
    (e_ga_BadNumber : PySem.W.findIn K (.ref c_BadNumber) "__getattribute__" = some (some (.builtin "BaseException.__getattribute__")))
    (e_gg_BadNumber : PySem.W.findIn K (.ref c_BadNumber) "__getattr__" = some none)
    (e_hd_BadNumber : PySem.W.hasDictIn K c_BadNumber = true)
    (e_ic_BadNumber : PySem.W.isClsIn K c_BadNumber = true)
    (e_s_BadNumber : PySem.W.mroIn K c_BadNumber (.ref c_BadNumber) = some true)
    (e_L_BadBounds : K.lookup c_BadBounds = some (excClassObj nmBadBounds qBadBounds c_BadBounds NBadBounds bsBadBounds [.ref c_FloorError, .type "ValueError", .type "Exception", .type "BaseException", .type "object"] true snBadBounds subBadBounds abBadBounds colBadBounds ddBadBounds m0BadBounds m1BadBounds m2BadBounds m3BadBounds m5BadBounds "ValueError.__new__"))
    (e_sa_BadBounds : PySem.W.findIn K (.ref c_BadBounds) "__setattr__" = some (some (.builtin "object.__setattr__")))
    (e_e_BadBounds : PySem.W.mroIn K c_BadBounds (.type "BaseException") = some true)
    (e_t_BadBounds : PySem.W.typeIn K (.ref c_BadBounds) = some (.type "type"))
    (e_k_BadBounds : PySem.W.keepIn K (.ref c_BadBounds) = true)
    (e_n_BadBounds : PySem.W.findIn K (.ref c_BadBounds) "index" = some none)
    (e_ga_BadBounds : PySem.W.findIn K (.ref c_BadBounds) "__getattribute__" = some (some (.builtin "BaseException.__getattribute__")))
    (e_gg_BadBounds : PySem.W.findIn K (.ref c_BadBounds) "__getattr__" = some none)
    (e_hd_BadBounds : PySem.W.hasDictIn K c_BadBounds = true)
    (e_ic_BadBounds : PySem.W.isClsIn K c_BadBounds = true)
    (e_s_BadBounds : PySem.W.mroIn K c_BadBounds (.ref c_BadBounds) = some true)
    (a_is_integral : PySem.W.nsIn K mainGlobals "is_integral" = some (some (.ref f_is_integral)))
    (l_is_integral : K.lookup f_is_integral = some ⟨oc_is_integral, od_is_integral, .func (PySem.W.fnOf "is_integral" "is_integral" (defArgs s_is_integral) (defBody s_is_integral) (defScope s_is_integral) .none kV_is_integral dc_is_integral pm_is_integral an_is_integral cd_is_integral ct_is_integral), sl_is_integral⟩)
    (d_is_integral : PySem.W.codeIn K cd_is_integral "is_integral" = true)
    (k_is_integral : PySem.W.keepIn K (.ref f_is_integral) = true)
    (a_BadBounds_init : PySem.W.findIn K (.ref c_BadBounds) "__init__" = some (some (.ref f_BadBounds_init)))
    (t_BadBounds_init : PySem.W.typeIn K (.ref f_BadBounds_init) = some (.type "function"))
    (l_BadBounds_init : K.lookup f_BadBounds_init = some ⟨oc_BadBounds_init, od_BadBounds_init, .func (PySem.W.fnOf "__init__" "BadBounds.__init__" (defArgs s_BadBounds_init) (defBody s_BadBounds_init) (defScope s_BadBounds_init) .none kV_BadBounds_init dc_BadBounds_init pm_BadBounds_init an_BadBounds_init cd_BadBounds_init ct_BadBounds_init), sl_BadBounds_init⟩)
    (d_BadBounds_init : PySem.W.codeIn K cd_BadBounds_init "BadBounds.__init__" = true)
    (k_BadBounds_init : PySem.W.keepIn K (.ref f_BadBounds_init) = true)
    (a_BadNumber_init : PySem.W.findIn K (.ref c_BadNumber) "__init__" = some (some (.ref f_BadNumber_init)))
    (t_BadNumber_init : PySem.W.typeIn K (.ref f_BadNumber_init) = some (.type "function"))
    (l_BadNumber_init : K.lookup f_BadNumber_init = some ⟨oc_BadNumber_init, od_BadNumber_init, .func (PySem.W.fnOf "__init__" "BadNumber.__init__" (defArgs s_BadNumber_init) (defBody s_BadNumber_init) (defScope s_BadNumber_init) .none kV_BadNumber_init dc_BadNumber_init pm_BadNumber_init an_BadNumber_init cd_BadNumber_init ct_BadNumber_init), sl_BadNumber_init⟩)
    (d_BadNumber_init : PySem.W.codeIn K cd_BadNumber_init "BadNumber.__init__" = true)
    (k_BadNumber_init : PySem.W.keepIn K (.ref f_BadNumber_init) = true)
    (a_Root_init : PySem.W.findIn K (.ref c_Root) "__init__" = some (some (.ref f_Root_init)))
    (i_Root_init : PySem.W.isFn K (.ref f_Root_init) = true)
    (mk_Root_init : PySem.W.makesIn K c_Root = true)
    (kc_Root_init : PySem.W.keepIn K (.ref c_Root) = true)
    (l_Root_init : K.lookup f_Root_init = some ⟨oc_Root_init, od_Root_init, .func (PySem.W.fnOf "__init__" "Root.__init__" (defArgs s_Root_init) (defBody s_Root_init) (defScope s_Root_init) .none kV_Root_init dc_Root_init pm_Root_init an_Root_init cd_Root_init ct_Root_init), sl_Root_init⟩)
    (d_Root_init : PySem.W.codeIn K cd_Root_init "Root.__init__" = true)
    (k_Root_init : PySem.W.keepIn K (.ref f_Root_init) = true)
    (a_Root_eq : PySem.W.findIn K (.ref c_Root) "__eq__" = some (some (.ref f_Root_eq)))
    (i_Root_eq : PySem.W.isFn K (.ref f_Root_eq) = true)
    (l_Root_eq : K.lookup f_Root_eq = some ⟨oc_Root_eq, od_Root_eq, .func (PySem.W.fnOf "__eq__" "Root.__eq__" (defArgs s_Root_eq) (defBody s_Root_eq) (defScope s_Root_eq) .none kV_Root_eq dc_Root_eq pm_Root_eq an_Root_eq cd_Root_eq ct_Root_eq), sl_Root_eq⟩)
    (d_Root_eq : PySem.W.codeIn K cd_Root_eq "Root.__eq__" = true)
    (k_Root_eq : PySem.W.keepIn K (.ref f_Root_eq) = true)
    (a_Root_neg : PySem.W.findIn K (.ref c_Root) "__neg__" = some (some (.ref f_Root_neg)))
    (i_Root_neg : PySem.W.isFn K (.ref f_Root_neg) = true)
    (l_Root_neg : K.lookup f_Root_neg = some ⟨oc_Root_neg, od_Root_neg, .func (PySem.W.fnOf "__neg__" "Root.__neg__" (defArgs s_Root_neg) (defBody s_Root_neg) (defScope s_Root_neg) .none kV_Root_neg dc_Root_neg pm_Root_neg an_Root_neg cd_Root_neg ct_Root_neg), sl_Root_neg⟩)
    (d_Root_neg : PySem.W.codeIn K cd_Root_neg "Root.__neg__" = true)
    (k_Root_neg : PySem.W.keepIn K (.ref f_Root_neg) = true)
    (a_is_number : PySem.W.nsIn K mainGlobals "is_number" = some (some (.ref f_is_number)))
    (l_is_number : K.lookup f_is_number = some ⟨oc_is_number, od_is_number, .func (PySem.W.fnOf "is_number" "is_number" (defArgs s_is_number) (defBody s_is_number) (defScope s_is_number) .none kV_is_number dc_is_number pm_is_number an_is_number cd_is_number ct_is_number), sl_is_number⟩)
    (d_is_number : PySem.W.codeIn K cd_is_number "is_number" = true)
    (k_is_number : PySem.W.keepIn K (.ref f_is_number) = true)
    (a_as_root : PySem.W.nsIn K mainGlobals "as_root" = some (some (.ref f_as_root)))
    (l_as_root : K.lookup f_as_root = some ⟨oc_as_root, od_as_root, .func (PySem.W.fnOf "as_root" "as_root" (defArgs s_as_root) (defBody s_as_root) (defScope s_as_root) .none kV_as_root dc_as_root pm_as_root an_as_root cd_as_root ct_as_root), sl_as_root⟩)
    (d_as_root : PySem.W.codeIn K cd_as_root "as_root" = true)
    (k_as_root : PySem.W.keepIn K (.ref f_as_root) = true)
    (a_surd_sign : PySem.W.nsIn K mainGlobals "surd_sign" = some (some (.ref f_surd_sign)))
    (l_surd_sign : K.lookup f_surd_sign = some ⟨oc_surd_sign, od_surd_sign, .func (PySem.W.fnOf "surd_sign" "surd_sign" (defArgs s_surd_sign) (defBody s_surd_sign) (defScope s_surd_sign) .none kV_surd_sign dc_surd_sign pm_surd_sign an_surd_sign cd_surd_sign ct_surd_sign), sl_surd_sign⟩)
    (d_surd_sign : PySem.W.codeIn K cd_surd_sign "surd_sign" = true)
    (k_surd_sign : PySem.W.keepIn K (.ref f_surd_sign) = true)
    (a_Root_add : PySem.W.findIn K (.ref c_Root) "__add__" = some (some (.ref f_Root_add)))
    (i_Root_add : PySem.W.isFn K (.ref f_Root_add) = true)
    (l_Root_add : K.lookup f_Root_add = some ⟨oc_Root_add, od_Root_add, .func (PySem.W.fnOf "__add__" "Root.__add__" (defArgs s_Root_add) (defBody s_Root_add) (defScope s_Root_add) .none kV_Root_add dc_Root_add pm_Root_add an_Root_add cd_Root_add ct_Root_add), sl_Root_add⟩)
    (d_Root_add : PySem.W.codeIn K cd_Root_add "Root.__add__" = true)
    (k_Root_add : PySem.W.keepIn K (.ref f_Root_add) = true)
    (a_Root_sub : PySem.W.findIn K (.ref c_Root) "__sub__" = some (some (.ref f_Root_sub)))
    (i_Root_sub : PySem.W.isFn K (.ref f_Root_sub) = true)
    (l_Root_sub : K.lookup f_Root_sub = some ⟨oc_Root_sub, od_Root_sub, .func (PySem.W.fnOf "__sub__" "Root.__sub__" (defArgs s_Root_sub) (defBody s_Root_sub) (defScope s_Root_sub) .none kV_Root_sub dc_Root_sub pm_Root_sub an_Root_sub cd_Root_sub ct_Root_sub), sl_Root_sub⟩)
    (d_Root_sub : PySem.W.codeIn K cd_Root_sub "Root.__sub__" = true)
    (k_Root_sub : PySem.W.keepIn K (.ref f_Root_sub) = true)
    (a_Root_mul : PySem.W.findIn K (.ref c_Root) "__mul__" = some (some (.ref f_Root_mul)))
    (i_Root_mul : PySem.W.isFn K (.ref f_Root_mul) = true)
    (l_Root_mul : K.lookup f_Root_mul = some ⟨oc_Root_mul, od_Root_mul, .func (PySem.W.fnOf "__mul__" "Root.__mul__" (defArgs s_Root_mul) (defBody s_Root_mul) (defScope s_Root_mul) .none kV_Root_mul dc_Root_mul pm_Root_mul an_Root_mul cd_Root_mul ct_Root_mul), sl_Root_mul⟩)
    (d_Root_mul : PySem.W.codeIn K cd_Root_mul "Root.__mul__" = true)
    (k_Root_mul : PySem.W.keepIn K (.ref f_Root_mul) = true)
    (a_Root_radd : PySem.W.findIn K (.ref c_Root) "__radd__" = some (some (.ref f_Root_radd)))
    (i_Root_radd : PySem.W.isFn K (.ref f_Root_radd) = true)
    (l_Root_radd : K.lookup f_Root_radd = some ⟨oc_Root_radd, od_Root_radd, .func (PySem.W.fnOf "__radd__" "Root.__radd__" (defArgs s_Root_radd) (defBody s_Root_radd) (defScope s_Root_radd) .none kV_Root_radd dc_Root_radd pm_Root_radd an_Root_radd cd_Root_radd ct_Root_radd), sl_Root_radd⟩)
    (d_Root_radd : PySem.W.codeIn K cd_Root_radd "Root.__radd__" = true)
    (k_Root_radd : PySem.W.keepIn K (.ref f_Root_radd) = true)
    (a_Root_rmul : PySem.W.findIn K (.ref c_Root) "__rmul__" = some (some (.ref f_Root_rmul)))
    (i_Root_rmul : PySem.W.isFn K (.ref f_Root_rmul) = true)
    (l_Root_rmul : K.lookup f_Root_rmul = some ⟨oc_Root_rmul, od_Root_rmul, .func (PySem.W.fnOf "__rmul__" "Root.__rmul__" (defArgs s_Root_rmul) (defBody s_Root_rmul) (defScope s_Root_rmul) .none kV_Root_rmul dc_Root_rmul pm_Root_rmul an_Root_rmul cd_Root_rmul ct_Root_rmul), sl_Root_rmul⟩)
    (d_Root_rmul : PySem.W.codeIn K cd_Root_rmul "Root.__rmul__" = true)
    (k_Root_rmul : PySem.W.keepIn K (.ref f_Root_rmul) = true)
    (a_Root_rsub : PySem.W.findIn K (.ref c_Root) "__rsub__" = some (some (.ref f_Root_rsub)))
    (i_Root_rsub : PySem.W.isFn K (.ref f_Root_rsub) = true)
    (l_Root_rsub : K.lookup f_Root_rsub = some ⟨oc_Root_rsub, od_Root_rsub, .func (PySem.W.fnOf "__rsub__" "Root.__rsub__" (defArgs s_Root_rsub) (defBody s_Root_rsub) (defScope s_Root_rsub) .none kV_Root_rsub dc_Root_rsub pm_Root_rsub an_Root_rsub cd_Root_rsub ct_Root_rsub), sl_Root_rsub⟩)
    (d_Root_rsub : PySem.W.codeIn K cd_Root_rsub "Root.__rsub__" = true)
    (k_Root_rsub : PySem.W.keepIn K (.ref f_Root_rsub) = true)
    (a_Root_less : PySem.W.findIn K (.ref c_Root) "less" = some (some (.ref f_Root_less)))
    (i_Root_less : PySem.W.isFn K (.ref f_Root_less) = true)
    (l_Root_less : K.lookup f_Root_less = some ⟨oc_Root_less, od_Root_less, .func (PySem.W.fnOf "less" "Root.less" (defArgs s_Root_less) (defBody s_Root_less) (defScope s_Root_less) .none kV_Root_less dc_Root_less pm_Root_less an_Root_less cd_Root_less ct_Root_less), sl_Root_less⟩)
    (d_Root_less : PySem.W.codeIn K cd_Root_less "Root.less" = true)
    (k_Root_less : PySem.W.keepIn K (.ref f_Root_less) = true)
    (a_Root_sign : PySem.W.findIn K (.ref c_Root) "sign" = some (some (.ref f_Root_sign)))
    (i_Root_sign : PySem.W.isFn K (.ref f_Root_sign) = true)
    (l_Root_sign : K.lookup f_Root_sign = some ⟨oc_Root_sign, od_Root_sign, .func (PySem.W.fnOf "sign" "Root.sign" (defArgs s_Root_sign) (defBody s_Root_sign) (defScope s_Root_sign) .none kV_Root_sign dc_Root_sign pm_Root_sign an_Root_sign cd_Root_sign ct_Root_sign), sl_Root_sign⟩)
    (d_Root_sign : PySem.W.codeIn K cd_Root_sign "Root.sign" = true)
    (k_Root_sign : PySem.W.keepIn K (.ref f_Root_sign) = true)
    (a_is_bound : PySem.W.nsIn K mainGlobals "is_bound" = some (some (.ref f_is_bound)))
    (l_is_bound : K.lookup f_is_bound = some ⟨oc_is_bound, od_is_bound, .func (PySem.W.fnOf "is_bound" "is_bound" (defArgs s_is_bound) (defBody s_is_bound) (defScope s_is_bound) .none kV_is_bound dc_is_bound pm_is_bound an_is_bound cd_is_bound ct_is_bound), sl_is_bound⟩)
    (d_is_bound : PySem.W.codeIn K cd_is_bound "is_bound" = true)
    (k_is_bound : PySem.W.keepIn K (.ref f_is_bound) = true)
    (a_check_bounds : PySem.W.nsIn K mainGlobals "check_bounds" = some (some (.ref f_check_bounds)))
    (l_check_bounds : K.lookup f_check_bounds = some ⟨oc_check_bounds, od_check_bounds, .func (PySem.W.fnOf "check_bounds" "check_bounds" (defArgs s_check_bounds) (defBody s_check_bounds) (defScope s_check_bounds) .none kV_check_bounds dc_check_bounds pm_check_bounds an_check_bounds cd_check_bounds ct_check_bounds), sl_check_bounds⟩)
    (d_check_bounds : PySem.W.codeIn K cd_check_bounds "check_bounds" = true)
    (k_check_bounds : PySem.W.keepIn K (.ref f_check_bounds) = true)
    (a__law_begin : PySem.W.nsIn K mainGlobals "_law_begin" = some (some (.ref f__law_begin)))
    (l__law_begin : K.lookup f__law_begin = some ⟨oc__law_begin, od__law_begin, .func (PySem.W.fnOf "_law_begin" "_law_begin" (defArgs s__law_begin) (defBody s__law_begin) (defScope s__law_begin) .none kV__law_begin dc__law_begin pm__law_begin an__law_begin cd__law_begin ct__law_begin), sl__law_begin⟩)
    (d__law_begin : PySem.W.codeIn K cd__law_begin "_law_begin" = true)
    (k__law_begin : PySem.W.keepIn K (.ref f__law_begin) = true)
    (a__law_draw : PySem.W.nsIn K mainGlobals "_law_draw" = some (some (.ref f__law_draw)))
    (l__law_draw : K.lookup f__law_draw = some ⟨oc__law_draw, od__law_draw, .func (PySem.W.fnOf "_law_draw" "_law_draw" (defArgs s__law_draw) (defBody s__law_draw) (defScope s__law_draw) .none kV__law_draw dc__law_draw pm__law_draw an__law_draw cd__law_draw ct__law_draw), sl__law_draw⟩)
    (d__law_draw : PySem.W.codeIn K cd__law_draw "_law_draw" = true)
    (k__law_draw : PySem.W.keepIn K (.ref f__law_draw) = true)
    (a__law_great : PySem.W.nsIn K mainGlobals "_law_great" = some (some (.ref f__law_great)))
    (l__law_great : K.lookup f__law_great = some ⟨oc__law_great, od__law_great, .func (PySem.W.fnOf "_law_great" "_law_great" (defArgs s__law_great) (defBody s__law_great) (defScope s__law_great) .none kV__law_great dc__law_great pm__law_great an__law_great cd__law_great ct__law_great), sl__law_great⟩)
    (d__law_great : PySem.W.codeIn K cd__law_great "_law_great" = true)
    (k__law_great : PySem.W.keepIn K (.ref f__law_great) = true)
    (a__law_number : PySem.W.nsIn K mainGlobals "_law_number" = some (some (.ref f__law_number)))
    (l__law_number : K.lookup f__law_number = some ⟨oc__law_number, od__law_number, .func (PySem.W.fnOf "_law_number" "_law_number" (defArgs s__law_number) (defBody s__law_number) (defScope s__law_number) .none kV__law_number dc__law_number pm__law_number an__law_number cd__law_number ct__law_number), sl__law_number⟩)
    (d__law_number : PySem.W.codeIn K cd__law_number "_law_number" = true)
    (k__law_number : PySem.W.keepIn K (.ref f__law_number) = true)
    (a__law_plus : PySem.W.nsIn K mainGlobals "_law_plus" = some (some (.ref f__law_plus)))
    (l__law_plus : K.lookup f__law_plus = some ⟨oc__law_plus, od__law_plus, .func (PySem.W.fnOf "_law_plus" "_law_plus" (defArgs s__law_plus) (defBody s__law_plus) (defScope s__law_plus) .none kV__law_plus dc__law_plus pm__law_plus an__law_plus cd__law_plus ct__law_plus), sl__law_plus⟩)
    (d__law_plus : PySem.W.codeIn K cd__law_plus "_law_plus" = true)
    (k__law_plus : PySem.W.keepIn K (.ref f__law_plus) = true)
    (a__law_scaled : PySem.W.nsIn K mainGlobals "_law_scaled" = some (some (.ref f__law_scaled)))
    (l__law_scaled : K.lookup f__law_scaled = some ⟨oc__law_scaled, od__law_scaled, .func (PySem.W.fnOf "_law_scaled" "_law_scaled" (defArgs s__law_scaled) (defBody s__law_scaled) (defScope s__law_scaled) .none kV__law_scaled dc__law_scaled pm__law_scaled an__law_scaled cd__law_scaled ct__law_scaled), sl__law_scaled⟩)
    (d__law_scaled : PySem.W.codeIn K cd__law_scaled "_law_scaled" = true)
    (k__law_scaled : PySem.W.keepIn K (.ref f__law_scaled) = true)
    (a__law_sign : PySem.W.nsIn K mainGlobals "_law_sign" = some (some (.ref f__law_sign)))
    (l__law_sign : K.lookup f__law_sign = some ⟨oc__law_sign, od__law_sign, .func (PySem.W.fnOf "_law_sign" "_law_sign" (defArgs s__law_sign) (defBody s__law_sign) (defScope s__law_sign) .none kV__law_sign dc__law_sign pm__law_sign an__law_sign cd__law_sign ct__law_sign), sl__law_sign⟩)
    (d__law_sign : PySem.W.codeIn K cd__law_sign "_law_sign" = true)
    (k__law_sign : PySem.W.keepIn K (.ref f__law_sign) = true)
    (a__law_compare : PySem.W.nsIn K mainGlobals "_law_compare" = some (some (.ref f__law_compare)))
    (l__law_compare : K.lookup f__law_compare = some ⟨oc__law_compare, od__law_compare, .func (PySem.W.fnOf "_law_compare" "_law_compare" (defArgs s__law_compare) (defBody s__law_compare) (defScope s__law_compare) .none kV__law_compare dc__law_compare pm__law_compare an__law_compare cd__law_compare ct__law_compare), sl__law_compare⟩)
    (d__law_compare : PySem.W.codeIn K cd__law_compare "_law_compare" = true)
    (k__law_compare : PySem.W.keepIn K (.ref f__law_compare) = true)
    (a__law_hand : PySem.W.nsIn K mainGlobals "_law_hand" = some (some (.ref f__law_hand)))
    (l__law_hand : K.lookup f__law_hand = some ⟨oc__law_hand, od__law_hand, .func (PySem.W.fnOf "_law_hand" "_law_hand" (defArgs s__law_hand) (defBody s__law_hand) (defScope s__law_hand) .none kV__law_hand dc__law_hand pm__law_hand an__law_hand cd__law_hand ct__law_hand), sl__law_hand⟩)
    (d__law_hand : PySem.W.codeIn K cd__law_hand "_law_hand" = true)
    (k__law_hand : PySem.W.keepIn K (.ref f__law_hand) = true)
    (a__law_handed : PySem.W.nsIn K mainGlobals "_law_handed" = some (some (.ref f__law_handed)))
    (l__law_handed : K.lookup f__law_handed = some ⟨oc__law_handed, od__law_handed, .func (PySem.W.fnOf "_law_handed" "_law_handed" (defArgs s__law_handed) (defBody s__law_handed) (defScope s__law_handed) .none kV__law_handed dc__law_handed pm__law_handed an__law_handed cd__law_handed ct__law_handed), sl__law_handed⟩)
    (d__law_handed : PySem.W.codeIn K cd__law_handed "_law_handed" = true)
    (k__law_handed : PySem.W.keepIn K (.ref f__law_handed) = true)
    (a__law_vector : PySem.W.nsIn K mainGlobals "_law_vector" = some (some (.ref f__law_vector)))
    (l__law_vector : K.lookup f__law_vector = some ⟨oc__law_vector, od__law_vector, .func (PySem.W.fnOf "_law_vector" "_law_vector" (defArgs s__law_vector) (defBody s__law_vector) (defScope s__law_vector) .none kV__law_vector dc__law_vector pm__law_vector an__law_vector cd__law_vector ct__law_vector), sl__law_vector⟩)
    (d__law_vector : PySem.W.codeIn K cd__law_vector "_law_vector" = true)
    (k__law_vector : PySem.W.keepIn K (.ref f__law_vector) = true)
    (a__law_along : PySem.W.nsIn K mainGlobals "_law_along" = some (some (.ref f__law_along)))
    (l__law_along : K.lookup f__law_along = some ⟨oc__law_along, od__law_along, .func (PySem.W.fnOf "_law_along" "_law_along" (defArgs s__law_along) (defBody s__law_along) (defScope s__law_along) .none kV__law_along dc__law_along pm__law_along an__law_along cd__law_along ct__law_along), sl__law_along⟩)
    (d__law_along : PySem.W.codeIn K cd__law_along "_law_along" = true)
    (k__law_along : PySem.W.keepIn K (.ref f__law_along) = true)
    (a__law_lets : PySem.W.nsIn K mainGlobals "_law_lets" = some (some (.ref f__law_lets)))
    (l__law_lets : K.lookup f__law_lets = some ⟨oc__law_lets, od__law_lets, .func (PySem.W.fnOf "_law_lets" "_law_lets" (defArgs s__law_lets) (defBody s__law_lets) (defScope s__law_lets) .none kV__law_lets dc__law_lets pm__law_lets an__law_lets cd__law_lets ct__law_lets), sl__law_lets⟩)
    (d__law_lets : PySem.W.codeIn K cd__law_lets "_law_lets" = true)
    (k__law_lets : PySem.W.keepIn K (.ref f__law_lets) = true)
    (a__law_in_all : PySem.W.nsIn K mainGlobals "_law_in_all" = some (some (.ref f__law_in_all)))
    (l__law_in_all : K.lookup f__law_in_all = some ⟨oc__law_in_all, od__law_in_all, .func (PySem.W.fnOf "_law_in_all" "_law_in_all" (defArgs s__law_in_all) (defBody s__law_in_all) (defScope s__law_in_all) .none kV__law_in_all dc__law_in_all pm__law_in_all an__law_in_all cd__law_in_all ct__law_in_all), sl__law_in_all⟩)
    (d__law_in_all : PySem.W.codeIn K cd__law_in_all "_law_in_all" = true)
    (k__law_in_all : PySem.W.keepIn K (.ref f__law_in_all) = true)
    (a__law_rows : PySem.W.nsIn K mainGlobals "_law_rows" = some (some (.ref f__law_rows)))
    (l__law_rows : K.lookup f__law_rows = some ⟨oc__law_rows, od__law_rows, .func (PySem.W.fnOf "_law_rows" "_law_rows" (defArgs s__law_rows) (defBody s__law_rows) (defScope s__law_rows) .none kV__law_rows dc__law_rows pm__law_rows an__law_rows cd__law_rows ct__law_rows), sl__law_rows⟩)
    (d__law_rows : PySem.W.codeIn K cd__law_rows "_law_rows" = true)
    (k__law_rows : PySem.W.keepIn K (.ref f__law_rows) = true)
    (a__law_width : PySem.W.nsIn K mainGlobals "_law_width" = some (some (.ref f__law_width)))
    (l__law_width : K.lookup f__law_width = some ⟨oc__law_width, od__law_width, .func (PySem.W.fnOf "_law_width" "_law_width" (defArgs s__law_width) (defBody s__law_width) (defScope s__law_width) .none kV__law_width dc__law_width pm__law_width an__law_width cd__law_width ct__law_width), sl__law_width⟩)
    (d__law_width : PySem.W.codeIn K cd__law_width "_law_width" = true)
    (k__law_width : PySem.W.keepIn K (.ref f__law_width) = true)
    (a__law_rows_round : PySem.W.nsIn K mainGlobals "_law_rows_round" = some (some (.ref f__law_rows_round)))
    (l__law_rows_round : K.lookup f__law_rows_round = some ⟨oc__law_rows_round, od__law_rows_round, .func (PySem.W.fnOf "_law_rows_round" "_law_rows_round" (defArgs s__law_rows_round) (defBody s__law_rows_round) (defScope s__law_rows_round) .none kV__law_rows_round dc__law_rows_round pm__law_rows_round an__law_rows_round cd__law_rows_round ct__law_rows_round), sl__law_rows_round⟩)
    (d__law_rows_round : PySem.W.codeIn K cd__law_rows_round "_law_rows_round" = true)
    (k__law_rows_round : PySem.W.keepIn K (.ref f__law_rows_round) = true)
    (a__law_cross : PySem.W.nsIn K mainGlobals "_law_cross" = some (some (.ref f__law_cross)))
    (l__law_cross : K.lookup f__law_cross = some ⟨oc__law_cross, od__law_cross, .func (PySem.W.fnOf "_law_cross" "_law_cross" (defArgs s__law_cross) (defBody s__law_cross) (defScope s__law_cross) .none kV__law_cross dc__law_cross pm__law_cross an__law_cross cd__law_cross ct__law_cross), sl__law_cross⟩)
    (d__law_cross : PySem.W.codeIn K cd__law_cross "_law_cross" = true)
    (k__law_cross : PySem.W.keepIn K (.ref f__law_cross) = true)
    (a__law_least : PySem.W.nsIn K mainGlobals "_law_least" = some (some (.ref f__law_least)))
    (l__law_least : K.lookup f__law_least = some ⟨oc__law_least, od__law_least, .func (PySem.W.fnOf "_law_least" "_law_least" (defArgs s__law_least) (defBody s__law_least) (defScope s__law_least) .none kV__law_least dc__law_least pm__law_least an__law_least cd__law_least ct__law_least), sl__law_least⟩)
    (d__law_least : PySem.W.codeIn K cd__law_least "_law_least" = true)
    (k__law_least : PySem.W.keepIn K (.ref f__law_least) = true)
    (a__law_is_integer : PySem.W.nsIn K mainGlobals "_law_is_integer" = some (some (.ref f__law_is_integer)))
    (l__law_is_integer : K.lookup f__law_is_integer = some ⟨oc__law_is_integer, od__law_is_integer, .func (PySem.W.fnOf "_law_is_integer" "_law_is_integer" (defArgs s__law_is_integer) (defBody s__law_is_integer) (defScope s__law_is_integer) .none kV__law_is_integer dc__law_is_integer pm__law_is_integer an__law_is_integer cd__law_is_integer ct__law_is_integer), sl__law_is_integer⟩)
    (d__law_is_integer : PySem.W.codeIn K cd__law_is_integer "_law_is_integer" = true)
    (k__law_is_integer : PySem.W.keepIn K (.ref f__law_is_integer) = true)
    (a_is_rest : PySem.W.nsIn K mainGlobals "is_rest" = some (some (.ref f_is_rest)))
    (l_is_rest : K.lookup f_is_rest = some ⟨oc_is_rest, od_is_rest, .func (PySem.W.fnOf "is_rest" "is_rest" (defArgs s_is_rest) (defBody s_is_rest) (defScope s_is_rest) .none kV_is_rest dc_is_rest pm_is_rest an_is_rest cd_is_rest ct_is_rest), sl_is_rest⟩)
    (d_is_rest : PySem.W.codeIn K cd_is_rest "is_rest" = true)
    (k_is_rest : PySem.W.keepIn K (.ref f_is_rest) = true)
    (a_rest_sum : PySem.W.nsIn K mainGlobals "rest_sum" = some (some (.ref f_rest_sum)))
    (l_rest_sum : K.lookup f_rest_sum = some ⟨oc_rest_sum, od_rest_sum, .func (PySem.W.fnOf "rest_sum" "rest_sum" (defArgs s_rest_sum) (defBody s_rest_sum) (defScope s_rest_sum) .none kV_rest_sum dc_rest_sum pm_rest_sum an_rest_sum cd_rest_sum ct_rest_sum), sl_rest_sum⟩)
    (d_rest_sum : PySem.W.codeIn K cd_rest_sum "rest_sum" = true)
    (k_rest_sum : PySem.W.keepIn K (.ref f_rest_sum) = true)
    (a__law_are_weights : PySem.W.nsIn K mainGlobals "_law_are_weights" = some (some (.ref f__law_are_weights)))
    (l__law_are_weights : K.lookup f__law_are_weights = some ⟨oc__law_are_weights, od__law_are_weights, .func (PySem.W.fnOf "_law_are_weights" "_law_are_weights" (defArgs s__law_are_weights) (defBody s__law_are_weights) (defScope s__law_are_weights) .none kV__law_are_weights dc__law_are_weights pm__law_are_weights an__law_are_weights cd__law_are_weights ct__law_are_weights), sl__law_are_weights⟩)
    (d__law_are_weights : PySem.W.codeIn K cd__law_are_weights "_law_are_weights" = true)
    (k__law_are_weights : PySem.W.keepIn K (.ref f__law_are_weights) = true)
    (a__law_weighed : PySem.W.nsIn K mainGlobals "_law_weighed" = some (some (.ref f__law_weighed)))
    (l__law_weighed : K.lookup f__law_weighed = some ⟨oc__law_weighed, od__law_weighed, .func (PySem.W.fnOf "_law_weighed" "_law_weighed" (defArgs s__law_weighed) (defBody s__law_weighed) (defScope s__law_weighed) .none kV__law_weighed dc__law_weighed pm__law_weighed an__law_weighed cd__law_weighed ct__law_weighed), sl__law_weighed⟩)
    (d__law_weighed : PySem.W.codeIn K cd__law_weighed "_law_weighed" = true)
    (k__law_weighed : PySem.W.keepIn K (.ref f__law_weighed) = true)
    (a__law_are_bars : PySem.W.nsIn K mainGlobals "_law_are_bars" = some (some (.ref f__law_are_bars)))
    (l__law_are_bars : K.lookup f__law_are_bars = some ⟨oc__law_are_bars, od__law_are_bars, .func (PySem.W.fnOf "_law_are_bars" "_law_are_bars" (defArgs s__law_are_bars) (defBody s__law_are_bars) (defScope s__law_are_bars) .none kV__law_are_bars dc__law_are_bars pm__law_are_bars an__law_are_bars cd__law_are_bars ct__law_are_bars), sl__law_are_bars⟩)
    (d__law_are_bars : PySem.W.codeIn K cd__law_are_bars "_law_are_bars" = true)
    (k__law_are_bars : PySem.W.keepIn K (.ref f__law_are_bars) = true)
    (a__law_over : PySem.W.nsIn K mainGlobals "_law_over" = some (some (.ref f__law_over)))
    (l__law_over : K.lookup f__law_over = some ⟨oc__law_over, od__law_over, .func (PySem.W.fnOf "_law_over" "_law_over" (defArgs s__law_over) (defBody s__law_over) (defScope s__law_over) .none kV__law_over dc__law_over pm__law_over an__law_over cd__law_over ct__law_over), sl__law_over⟩)
    (d__law_over : PySem.W.codeIn K cd__law_over "_law_over" = true)
    (k__law_over : PySem.W.keepIn K (.ref f__law_over) = true)
    (a__law_closing : PySem.W.nsIn K mainGlobals "_law_closing" = some (some (.ref f__law_closing)))
    (l__law_closing : K.lookup f__law_closing = some ⟨oc__law_closing, od__law_closing, .func (PySem.W.fnOf "_law_closing" "_law_closing" (defArgs s__law_closing) (defBody s__law_closing) (defScope s__law_closing) .none kV__law_closing dc__law_closing pm__law_closing an__law_closing cd__law_closing ct__law_closing), sl__law_closing⟩)
    (d__law_closing : PySem.W.codeIn K cd__law_closing "_law_closing" = true)
    (k__law_closing : PySem.W.keepIn K (.ref f__law_closing) = true)
    (a__law_indexes : PySem.W.nsIn K mainGlobals "_law_indexes" = some (some (.ref f__law_indexes)))
    (l__law_indexes : K.lookup f__law_indexes = some ⟨oc__law_indexes, od__law_indexes, .func (PySem.W.fnOf "_law_indexes" "_law_indexes" (defArgs s__law_indexes) (defBody s__law_indexes) (defScope s__law_indexes) .none kV__law_indexes dc__law_indexes pm__law_indexes an__law_indexes cd__law_indexes ct__law_indexes), sl__law_indexes⟩)
    (d__law_indexes : PySem.W.codeIn K cd__law_indexes "_law_indexes" = true)
    (k__law_indexes : PySem.W.keepIn K (.ref f__law_indexes) = true)
    (a__law_as_weights : PySem.W.nsIn K mainGlobals "_law_as_weights" = some (some (.ref f__law_as_weights)))
    (l__law_as_weights : K.lookup f__law_as_weights = some ⟨oc__law_as_weights, od__law_as_weights, .func (PySem.W.fnOf "_law_as_weights" "_law_as_weights" (defArgs s__law_as_weights) (defBody s__law_as_weights) (defScope s__law_as_weights) .none kV__law_as_weights dc__law_as_weights pm__law_as_weights an__law_as_weights cd__law_as_weights ct__law_as_weights), sl__law_as_weights⟩)
    (d__law_as_weights : PySem.W.codeIn K cd__law_as_weights "_law_as_weights" = true)
    (k__law_as_weights : PySem.W.keepIn K (.ref f__law_as_weights) = true)
    (a__law_item_spoiled : PySem.W.nsIn K mainGlobals "_law_item_spoiled" = some (some (.ref f__law_item_spoiled)))
    (l__law_item_spoiled : K.lookup f__law_item_spoiled = some ⟨oc__law_item_spoiled, od__law_item_spoiled, .func (PySem.W.fnOf "_law_item_spoiled" "_law_item_spoiled" (defArgs s__law_item_spoiled) (defBody s__law_item_spoiled) (defScope s__law_item_spoiled) .none kV__law_item_spoiled dc__law_item_spoiled pm__law_item_spoiled an__law_item_spoiled cd__law_item_spoiled ct__law_item_spoiled), sl__law_item_spoiled⟩)
    (d__law_item_spoiled : PySem.W.codeIn K cd__law_item_spoiled "_law_item_spoiled" = true)
    (k__law_item_spoiled : PySem.W.keepIn K (.ref f__law_item_spoiled) = true)
    (a__law_spoiled : PySem.W.nsIn K mainGlobals "_law_spoiled" = some (some (.ref f__law_spoiled)))
    (l__law_spoiled : K.lookup f__law_spoiled = some ⟨oc__law_spoiled, od__law_spoiled, .func (PySem.W.fnOf "_law_spoiled" "_law_spoiled" (defArgs s__law_spoiled) (defBody s__law_spoiled) (defScope s__law_spoiled) .none kV__law_spoiled dc__law_spoiled pm__law_spoiled an__law_spoiled cd__law_spoiled ct__law_spoiled), sl__law_spoiled⟩)
    (d__law_spoiled : PySem.W.codeIn K cd__law_spoiled "_law_spoiled" = true)
    (k__law_spoiled : PySem.W.keepIn K (.ref f__law_spoiled) = true)
    (a_check_bound : PySem.W.nsIn K mainGlobals "check_bound" = some (some (.ref f_check_bound)))
    (l_check_bound : K.lookup f_check_bound = some ⟨oc_check_bound, od_check_bound, .func (PySem.W.fnOf "check_bound" "check_bound" (defArgs s_check_bound) (defBody s_check_bound) (defScope s_check_bound) .none kV_check_bound dc_check_bound pm_check_bound an_check_bound cd_check_bound ct_check_bound), sl_check_bound⟩)
    (d_check_bound : PySem.W.codeIn K cd_check_bound "check_bound" = true)
    (k_check_bound : PySem.W.keepIn K (.ref f_check_bound) = true)
    (a_is_press : PySem.W.nsIn K mainGlobals "is_press" = some (some (.ref f_is_press)))
    (l_is_press : K.lookup f_is_press = some ⟨oc_is_press, od_is_press, .func (PySem.W.fnOf "is_press" "is_press" (defArgs s_is_press) (defBody s_is_press) (defScope s_is_press) .none kV_is_press dc_is_press pm_is_press an_is_press cd_is_press ct_is_press), sl_is_press⟩)
    (d_is_press : PySem.W.codeIn K cd_is_press "is_press" = true)
    (k_is_press : PySem.W.keepIn K (.ref f_is_press) = true)
    (a__law_are_press : PySem.W.nsIn K mainGlobals "_law_are_press" = some (some (.ref f__law_are_press)))
    (l__law_are_press : K.lookup f__law_are_press = some ⟨oc__law_are_press, od__law_are_press, .func (PySem.W.fnOf "_law_are_press" "_law_are_press" (defArgs s__law_are_press) (defBody s__law_are_press) (defScope s__law_are_press) .none kV__law_are_press dc__law_are_press pm__law_are_press an__law_are_press cd__law_are_press ct__law_are_press), sl__law_are_press⟩)
    (d__law_are_press : PySem.W.codeIn K cd__law_are_press "_law_are_press" = true)
    (k__law_are_press : PySem.W.keepIn K (.ref f__law_are_press) = true)
    (a__law_some_press : PySem.W.nsIn K mainGlobals "_law_some_press" = some (some (.ref f__law_some_press)))
    (l__law_some_press : K.lookup f__law_some_press = some ⟨oc__law_some_press, od__law_some_press, .func (PySem.W.fnOf "_law_some_press" "_law_some_press" (defArgs s__law_some_press) (defBody s__law_some_press) (defScope s__law_some_press) .none kV__law_some_press dc__law_some_press pm__law_some_press an__law_some_press cd__law_some_press ct__law_some_press), sl__law_some_press⟩)
    (d__law_some_press : PySem.W.codeIn K cd__law_some_press "_law_some_press" = true)
    (k__law_some_press : PySem.W.keepIn K (.ref f__law_some_press) = true)
    (a__law_bound_near : PySem.W.nsIn K mainGlobals "_law_bound_near" = some (some (.ref f__law_bound_near)))
    (l__law_bound_near : K.lookup f__law_bound_near = some ⟨oc__law_bound_near, od__law_bound_near, .func (PySem.W.fnOf "_law_bound_near" "_law_bound_near" (defArgs s__law_bound_near) (defBody s__law_bound_near) (defScope s__law_bound_near) .none kV__law_bound_near dc__law_bound_near pm__law_bound_near an__law_bound_near cd__law_bound_near ct__law_bound_near), sl__law_bound_near⟩)
    (d__law_bound_near : PySem.W.codeIn K cd__law_bound_near "_law_bound_near" = true)
    (k__law_bound_near : PySem.W.keepIn K (.ref f__law_bound_near) = true)
    (a__law_press_spoiled : PySem.W.nsIn K mainGlobals "_law_press_spoiled" = some (some (.ref f__law_press_spoiled)))
    (l__law_press_spoiled : K.lookup f__law_press_spoiled = some ⟨oc__law_press_spoiled, od__law_press_spoiled, .func (PySem.W.fnOf "_law_press_spoiled" "_law_press_spoiled" (defArgs s__law_press_spoiled) (defBody s__law_press_spoiled) (defScope s__law_press_spoiled) .none kV__law_press_spoiled dc__law_press_spoiled pm__law_press_spoiled an__law_press_spoiled cd__law_press_spoiled ct__law_press_spoiled), sl__law_press_spoiled⟩)
    (d__law_press_spoiled : PySem.W.codeIn K cd__law_press_spoiled "_law_press_spoiled" = true)
    (k__law_press_spoiled : PySem.W.keepIn K (.ref f__law_press_spoiled) = true)
    (a_law : PySem.W.nsIn K mainGlobals "law" = some (some (.ref f_law)))
    (l_law : K.lookup f_law = some ⟨oc_law, od_law, .func (PySem.W.fnOf "law" "law" (defArgs s_law) (defBody s_law) (defScope s_law) .none kV_law dc_law pm_law an_law cd_law ct_law), sl_law⟩)
    (d_law : PySem.W.codeIn K cd_law "law" = true)
    (k_law : PySem.W.keepIn K (.ref f_law) = true)
    : ∃ fd : FuncData, (∀ (s : Shared) (v : Value), BindsTo s fd ⟨[v], []⟩ [("script", v)]) ∧ ∀ base : Heap, K.In base → base.Ns mainGlobals mg → FnOk P w K mg base (L2.CX P w) 10 fa fd ["script"] (spTop K) := by
  have e := hfa.symm.trans (PySem.W.mg_of X G a_law)
  cases e
  have M : ∀ {n : Str} {v : Value}, PySem.W.nsIn K mainGlobals n = some (some v) → mg n = some v := fun h => PySem.W.mg_of X G h
  have O : ∀ {n : Str}, PySem.W.nsIn K mainGlobals n = some none → mg n = none := fun h => PySem.W.mg_none_of X G h
  have T : Txt (⟨K, c_FloorError, c_BadNumber, c_BadBounds, c_Root, c_VECTORS⟩ : Zs) mg :=
    { g_VECTORS := M r_VECTORS
      d_VECTORS := kd_ref kd_VECTORS
      g_MOST_BOUNDS := (int_of gi_MOST_BOUNDS).imp fun u h => ⟨M h.1, h.2⟩
      n_isinstance := O r_isinstance
      n_len := O r_len
      n_tuple := O r_tuple
      n_enumerate := O r_enumerate
      n_list := O r_list
      n_int := O r_int
      n_range := O r_range
      n_bool := O r_bool
      n_sorted := O r_sorted
      n_str := O r_str
      n_max := O r_max
      n_abs := O r_abs
      n_min := O r_min
      g_gcd := M r_gcd
      g_FloorError := M r_FloorError
      g_BadNumber := M r_BadNumber
      g_BadBounds := M r_BadBounds
      g_Root := M r_Root
      ki := ki_mk ⟨r_pg, r_hd, r_po, r_sa⟩ r_ca r_hm r_ic r_tc r_s1 r_s2
      nf_top := r_nt, nf_root := r_nr, nf_bottom := r_nb
      ow := ⟨r_sf, r_s1⟩
      ra := ⟨_, r_ra⟩
      rs := ⟨_, r_rs⟩
      rm := ⟨_, r_rm⟩
      x_BadNumber := ⟨⟨nmBadNumber, qBadNumber, NBadNumber, bsBadNumber, _, snBadNumber, subBadNumber, abBadNumber, colBadNumber, ddBadNumber, m0BadNumber, m1BadNumber, m2BadNumber, m3BadNumber, m5BadNumber, e_L_BadNumber, rfl⟩, e_sa_BadNumber, e_e_BadNumber, e_t_BadNumber, e_k_BadNumber⟩
      xn_BadNumber := e_n_BadNumber
      xf_BadNumber := ⟨e_ga_BadNumber, e_gg_BadNumber, e_e_BadNumber, e_hd_BadNumber⟩
      xm_BadNumber := exm_mk e_e_BadNumber e_ic_BadNumber e_t_BadNumber e_s_BadNumber
      x_BadBounds := ⟨⟨nmBadBounds, qBadBounds, NBadBounds, bsBadBounds, _, snBadBounds, subBadBounds, abBadBounds, colBadBounds, ddBadBounds, m0BadBounds, m1BadBounds, m2BadBounds, m3BadBounds, m5BadBounds, e_L_BadBounds, rfl⟩, e_sa_BadBounds, e_e_BadBounds, e_t_BadBounds, e_k_BadBounds⟩
      xn_BadBounds := e_n_BadBounds
      xf_BadBounds := ⟨e_ga_BadBounds, e_gg_BadBounds, e_e_BadBounds, e_hd_BadBounds⟩
      xm_BadBounds := exm_mk e_e_BadBounds e_ic_BadBounds e_t_BadBounds e_s_BadBounds
    }
  have F_is_integral := fun_mk (st := s_is_integral) l_is_integral d_is_integral k_is_integral
  have B_is_integral := F_is_integral.binds (ps := ["thing"]) fun _ _ _ _ _ _ us hl => match us, hl with | [_], _ => rfl
  have F_BadBounds_init := fun_mk (st := s_BadBounds_init) l_BadBounds_init d_BadBounds_init k_BadBounds_init
  have B_BadBounds_init := F_BadBounds_init.binds (ps := ["self", "index"]) fun _ _ _ _ _ _ us hl => match us, hl with | [_, _], _ => rfl
  have F_BadNumber_init := fun_mk (st := s_BadNumber_init) l_BadNumber_init d_BadNumber_init k_BadNumber_init
  have B_BadNumber_init := F_BadNumber_init.binds (ps := ["self", "value"]) fun _ _ _ _ _ _ us hl => match us, hl with | [_, _], _ => rfl
  have F_Root_init := fun_mk (st := s_Root_init) l_Root_init d_Root_init k_Root_init
  have B_Root_init := F_Root_init.binds (ps := ["self", "top", "root", "bottom"]) fun _ _ _ _ _ _ us hl => match us, hl with | [_, _, _, _], _ => rfl
  have F_Root_eq := fun_mk (st := s_Root_eq) l_Root_eq d_Root_eq k_Root_eq
  have B_Root_eq := F_Root_eq.binds (ps := ["self", "other"]) fun _ _ _ _ _ _ us hl => match us, hl with | [_, _], _ => rfl
  have F_Root_neg := fun_mk (st := s_Root_neg) l_Root_neg d_Root_neg k_Root_neg
  have B_Root_neg := F_Root_neg.binds (ps := ["self"]) fun _ _ _ _ _ _ us hl => match us, hl with | [_], _ => rfl
  have F_is_number := fun_mk (st := s_is_number) l_is_number d_is_number k_is_number
  have B_is_number := F_is_number.binds (ps := ["thing"]) fun _ _ _ _ _ _ us hl => match us, hl with | [_], _ => rfl
  have F_as_root := fun_mk (st := s_as_root) l_as_root d_as_root k_as_root
  have B_as_root := F_as_root.binds (ps := ["number"]) fun _ _ _ _ _ _ us hl => match us, hl with | [_], _ => rfl
  have F_surd_sign := fun_mk (st := s_surd_sign) l_surd_sign d_surd_sign k_surd_sign
  have B_surd_sign := F_surd_sign.binds (ps := ["top", "root"]) fun _ _ _ _ _ _ us hl => match us, hl with | [_, _], _ => rfl
  have F_Root_add := fun_mk (st := s_Root_add) l_Root_add d_Root_add k_Root_add
  have B_Root_add := F_Root_add.binds (ps := ["self", "other"]) fun _ _ _ _ _ _ us hl => match us, hl with | [_, _], _ => rfl
  have F_Root_sub := fun_mk (st := s_Root_sub) l_Root_sub d_Root_sub k_Root_sub
  have B_Root_sub := F_Root_sub.binds (ps := ["self", "other"]) fun _ _ _ _ _ _ us hl => match us, hl with | [_, _], _ => rfl
  have F_Root_mul := fun_mk (st := s_Root_mul) l_Root_mul d_Root_mul k_Root_mul
  have B_Root_mul := F_Root_mul.binds (ps := ["self", "other"]) fun _ _ _ _ _ _ us hl => match us, hl with | [_, _], _ => rfl
  have F_Root_radd := fun_mk (st := s_Root_radd) l_Root_radd d_Root_radd k_Root_radd
  have B_Root_radd := F_Root_radd.binds (ps := ["self", "other"]) fun _ _ _ _ _ _ us hl => match us, hl with | [_, _], _ => rfl
  have F_Root_rmul := fun_mk (st := s_Root_rmul) l_Root_rmul d_Root_rmul k_Root_rmul
  have B_Root_rmul := F_Root_rmul.binds (ps := ["self", "other"]) fun _ _ _ _ _ _ us hl => match us, hl with | [_, _], _ => rfl
  have F_Root_rsub := fun_mk (st := s_Root_rsub) l_Root_rsub d_Root_rsub k_Root_rsub
  have B_Root_rsub := F_Root_rsub.binds (ps := ["self", "other"]) fun _ _ _ _ _ _ us hl => match us, hl with | [_, _], _ => rfl
  have F_Root_less := fun_mk (st := s_Root_less) l_Root_less d_Root_less k_Root_less
  have B_Root_less := F_Root_less.binds (ps := ["self", "number"]) fun _ _ _ _ _ _ us hl => match us, hl with | [_, _], _ => rfl
  have F_Root_sign := fun_mk (st := s_Root_sign) l_Root_sign d_Root_sign k_Root_sign
  have B_Root_sign := F_Root_sign.binds (ps := ["self"]) fun _ _ _ _ _ _ us hl => match us, hl with | [_], _ => rfl
  have F_is_bound := fun_mk (st := s_is_bound) l_is_bound d_is_bound k_is_bound
  have B_is_bound := F_is_bound.binds (ps := ["thing"]) fun _ _ _ _ _ _ us hl => match us, hl with | [_], _ => rfl
  have F_check_bounds := fun_mk (st := s_check_bounds) l_check_bounds d_check_bounds k_check_bounds
  have B_check_bounds := F_check_bounds.binds (ps := ["bounds"]) fun _ _ _ _ _ _ us hl => match us, hl with | [_], _ => rfl
  have F__law_begin := fun_mk (st := s__law_begin) l__law_begin d__law_begin k__law_begin
  have B__law_begin := F__law_begin.binds (ps := ["script"]) fun _ _ _ _ _ _ us hl => match us, hl with | [_], _ => rfl
  have F__law_draw := fun_mk (st := s__law_draw) l__law_draw d__law_draw k__law_draw
  have B__law_draw := F__law_draw.binds (ps := ["draws", "many"]) fun _ _ _ _ _ _ us hl => match us, hl with | [_, _], _ => rfl
  have F__law_great := fun_mk (st := s__law_great) l__law_great d__law_great k__law_great
  have B__law_great := F__law_great.binds (ps := ["draws", "eights"]) fun _ _ _ _ _ _ us hl => match us, hl with | [_, _], _ => rfl
  have F__law_number := fun_mk (st := s__law_number) l__law_number d__law_number k__law_number
  have B__law_number := F__law_number.binds (ps := ["draws"]) fun _ _ _ _ _ _ us hl => match us, hl with | [_], _ => rfl
  have F__law_plus := fun_mk (st := s__law_plus) l__law_plus d__law_plus k__law_plus
  have B__law_plus := F__law_plus.binds (ps := ["one", "other"]) fun _ _ _ _ _ _ us hl => match us, hl with | [_, _], _ => rfl
  have F__law_scaled := fun_mk (st := s__law_scaled) l__law_scaled d__law_scaled k__law_scaled
  have B__law_scaled := F__law_scaled.binds (ps := ["part", "one"]) fun _ _ _ _ _ _ us hl => match us, hl with | [_, _], _ => rfl
  have F__law_sign := fun_mk (st := s__law_sign) l__law_sign d__law_sign k__law_sign
  have B__law_sign := F__law_sign.binds (ps := ["one"]) fun _ _ _ _ _ _ us hl => match us, hl with | [_], _ => rfl
  have F__law_compare := fun_mk (st := s__law_compare) l__law_compare d__law_compare k__law_compare
  have B__law_compare := F__law_compare.binds (ps := ["one", "other"]) fun _ _ _ _ _ _ us hl => match us, hl with | [_, _], _ => rfl
  have F__law_hand := fun_mk (st := s__law_hand) l__law_hand d__law_hand k__law_hand
  have B__law_hand := F__law_hand.binds (ps := ["draws", "number"]) fun _ _ _ _ _ _ us hl => match us, hl with | [_, _], _ => rfl
  have F__law_handed := fun_mk (st := s__law_handed) l__law_handed d__law_handed k__law_handed
  have B__law_handed := F__law_handed.binds (ps := ["draws", "rows"]) fun _ _ _ _ _ _ us hl => match us, hl with | [_, _], _ => rfl
  have F__law_vector := fun_mk (st := s__law_vector) l__law_vector d__law_vector k__law_vector
  have B__law_vector := F__law_vector.binds (ps := ["way"]) fun _ _ _ _ _ _ us hl => match us, hl with | [_], _ => rfl
  have F__law_along := fun_mk (st := s__law_along) l__law_along d__law_along k__law_along
  have B__law_along := F__law_along.binds (ps := ["way", "point"]) fun _ _ _ _ _ _ us hl => match us, hl with | [_, _], _ => rfl
  have F__law_lets := fun_mk (st := s__law_lets) l__law_lets d__law_lets k__law_lets
  have B__law_lets := F__law_lets.binds (ps := ["bound", "point"]) fun _ _ _ _ _ _ us hl => match us, hl with | [_, _], _ => rfl
  have F__law_in_all := fun_mk (st := s__law_in_all) l__law_in_all d__law_in_all k__law_in_all
  have B__law_in_all := F__law_in_all.binds (ps := ["rows", "point"]) fun _ _ _ _ _ _ us hl => match us, hl with | [_, _], _ => rfl
  have F__law_rows := fun_mk (st := s__law_rows) l__law_rows d__law_rows k__law_rows
  have B__law_rows := F__law_rows.binds (ps := ["draws", "many"]) fun _ _ _ _ _ _ us hl => match us, hl with | [_, _], _ => rfl
  have F__law_width := fun_mk (st := s__law_width) l__law_width d__law_width k__law_width
  have B__law_width := F__law_width.binds (ps := ["draws"]) fun _ _ _ _ _ _ us hl => match us, hl with | [_], _ => rfl
  have F__law_rows_round := fun_mk (st := s__law_rows_round) l__law_rows_round d__law_rows_round k__law_rows_round
  have B__law_rows_round := F__law_rows_round.binds (ps := ["draws", "many"]) fun _ _ _ _ _ _ us hl => match us, hl with | [_, _], _ => rfl
  have F__law_cross := fun_mk (st := s__law_cross) l__law_cross d__law_cross k__law_cross
  have B__law_cross := F__law_cross.binds (ps := ["one", "other"]) fun _ _ _ _ _ _ us hl => match us, hl with | [_, _], _ => rfl
  have F__law_least := fun_mk (st := s__law_least) l__law_least d__law_least k__law_least
  have B__law_least := F__law_least.binds (ps := ["rows"]) fun _ _ _ _ _ _ us hl => match us, hl with | [_], _ => rfl
  have F__law_is_integer := fun_mk (st := s__law_is_integer) l__law_is_integer d__law_is_integer k__law_is_integer
  have B__law_is_integer := F__law_is_integer.binds (ps := ["thing"]) fun _ _ _ _ _ _ us hl => match us, hl with | [_], _ => rfl
  have F_is_rest := fun_mk (st := s_is_rest) l_is_rest d_is_rest k_is_rest
  have B_is_rest := F_is_rest.binds (ps := ["thing", "many"]) fun _ _ _ _ _ _ us hl => match us, hl with | [_, _], _ => rfl
  have F_rest_sum := fun_mk (st := s_rest_sum) l_rest_sum d_rest_sum k_rest_sum
  have B_rest_sum := F_rest_sum.binds (ps := ["bounds", "rest"]) fun _ _ _ _ _ _ us hl => match us, hl with | [_, _], _ => rfl
  have F__law_are_weights := fun_mk (st := s__law_are_weights) l__law_are_weights d__law_are_weights k__law_are_weights
  have B__law_are_weights := F__law_are_weights.binds (ps := ["rows", "thing", "least", "most"]) fun _ _ _ _ _ _ us hl => match us, hl with | [_, _, _, _], _ => rfl
  have F__law_weighed := fun_mk (st := s__law_weighed) l__law_weighed d__law_weighed k__law_weighed
  have B__law_weighed := F__law_weighed.binds (ps := ["rows", "weights"]) fun _ _ _ _ _ _ us hl => match us, hl with | [_, _], _ => rfl
  have F__law_are_bars := fun_mk (st := s__law_are_bars) l__law_are_bars d__law_are_bars k__law_are_bars
  have B__law_are_bars := F__law_are_bars.binds (ps := ["rows", "thing"]) fun _ _ _ _ _ _ us hl => match us, hl with | [_, _], _ => rfl
  have F__law_over := fun_mk (st := s__law_over) l__law_over d__law_over k__law_over
  have B__law_over := F__law_over.binds (ps := ["number", "part"]) fun _ _ _ _ _ _ us hl => match us, hl with | [_, _], _ => rfl
  have F__law_closing := fun_mk (st := s__law_closing) l__law_closing d__law_closing k__law_closing
  have B__law_closing := F__law_closing.binds (ps := ["draws", "rows"]) fun _ _ _ _ _ _ us hl => match us, hl with | [_, _], _ => rfl
  have F__law_indexes := fun_mk (st := s__law_indexes) l__law_indexes d__law_indexes k__law_indexes
  have B__law_indexes := F__law_indexes.binds (ps := ["rows"]) fun _ _ _ _ _ _ us hl => match us, hl with | [_], _ => rfl
  have F__law_as_weights := fun_mk (st := s__law_as_weights) l__law_as_weights d__law_as_weights k__law_as_weights
  have B__law_as_weights := F__law_as_weights.binds (ps := ["indexes", "parts"]) fun _ _ _ _ _ _ us hl => match us, hl with | [_, _], _ => rfl
  have F__law_item_spoiled := fun_mk (st := s__law_item_spoiled) l__law_item_spoiled d__law_item_spoiled k__law_item_spoiled
  have B__law_item_spoiled := F__law_item_spoiled.binds (ps := ["draws", "item"]) fun _ _ _ _ _ _ us hl => match us, hl with | [_, _], _ => rfl
  have F__law_spoiled := fun_mk (st := s__law_spoiled) l__law_spoiled d__law_spoiled k__law_spoiled
  have B__law_spoiled := F__law_spoiled.binds (ps := ["draws", "items"]) fun _ _ _ _ _ _ us hl => match us, hl with | [_, _], _ => rfl
  have F_check_bound := fun_mk (st := s_check_bound) l_check_bound d_check_bound k_check_bound
  have B_check_bound := F_check_bound.binds (ps := ["bound"]) fun _ _ _ _ _ _ us hl => match us, hl with | [_], _ => rfl
  have F_is_press := fun_mk (st := s_is_press) l_is_press d_is_press k_is_press
  have B_is_press := F_is_press.binds (ps := ["bounds", "bound", "thing"]) fun _ _ _ _ _ _ us hl => match us, hl with | [_, _, _], _ => rfl
  have F__law_are_press := fun_mk (st := s__law_are_press) l__law_are_press d__law_are_press k__law_are_press
  have B__law_are_press := F__law_are_press.binds (ps := ["rows", "bound", "thing"]) fun _ _ _ _ _ _ us hl => match us, hl with | [_, _, _], _ => rfl
  have F__law_some_press := fun_mk (st := s__law_some_press) l__law_some_press d__law_some_press k__law_some_press
  have B__law_some_press := F__law_some_press.binds (ps := ["rows", "bound"]) fun _ _ _ _ _ _ us hl => match us, hl with | [_, _], _ => rfl
  have F__law_bound_near := fun_mk (st := s__law_bound_near) l__law_bound_near d__law_bound_near k__law_bound_near
  have B__law_bound_near := F__law_bound_near.binds (ps := ["draws", "rows"]) fun _ _ _ _ _ _ us hl => match us, hl with | [_, _], _ => rfl
  have F__law_press_spoiled := fun_mk (st := s__law_press_spoiled) l__law_press_spoiled d__law_press_spoiled k__law_press_spoiled
  have B__law_press_spoiled := F__law_press_spoiled.binds (ps := ["draws", "found"]) fun _ _ _ _ _ _ us hl => match us, hl with | [_, _], _ => rfl
  have F_law := fun_mk (st := s_law) l_law d_law k_law
  refine ⟨PySem.W.fnOf "law" "law" (defArgs s_law) (defBody s_law) (defScope s_law) .none kV_law dc_law pm_law an_law cd_law ct_law, fun s v => .of_eq rfl, fun base _ _ => ?_⟩
  have h_is_integral := ok_is_integral (P := P) (w := w) (base := base) T  ⟨_, _, F_is_integral, B_is_integral, M a_is_integral⟩
  have h_BadBounds := ok_BadBounds_init (P := P) (w := w) (base := base) T  ⟨_, _, F_BadBounds_init, B_BadBounds_init, M r_BadBounds, a_BadBounds_init, t_BadBounds_init⟩
  have h_BadNumber := ok_BadNumber_init (P := P) (w := w) (base := base) T  ⟨_, _, F_BadNumber_init, B_BadNumber_init, M r_BadNumber, a_BadNumber_init, t_BadNumber_init⟩
  have h_Root := ok_Root_init (P := P) (w := w) (base := base) T h_BadNumber h_is_integral ⟨_, _, F_Root_init, B_Root_init, ⟨mk_Root_init, a_Root_init, i_Root_init, kc_Root_init⟩, M r_Root⟩
  have h_Root_eq := ok_Root_eq (P := P) (w := w) (base := base) T h_is_integral ⟨_, _, F_Root_eq, B_Root_eq, ⟨a_Root_eq, i_Root_eq, k_Root_eq⟩⟩
  have h_Root_neg := ok_Root_neg (P := P) (w := w) (base := base) T h_Root ⟨_, _, F_Root_neg, B_Root_neg, ⟨a_Root_neg, i_Root_neg, k_Root_neg⟩⟩
  have h_is_number := ok_is_number (P := P) (w := w) (base := base) T h_is_integral ⟨_, _, F_is_number, B_is_number, M a_is_number⟩
  have h_as_root := ok_as_root (P := P) (w := w) (base := base) T h_Root ⟨_, _, F_as_root, B_as_root, M a_as_root⟩
  have h_surd_sign := ok_surd_sign (P := P) (w := w) (base := base) T  ⟨_, _, F_surd_sign, B_surd_sign, M a_surd_sign⟩
  have h_Root_add := ok_Root_add (P := P) (w := w) (base := base) T h_Root h_as_root h_is_number ⟨_, _, F_Root_add, B_Root_add, ⟨a_Root_add, i_Root_add, k_Root_add⟩⟩
  have h_Root_sub := ok_Root_sub (P := P) (w := w) (base := base) T h_Root h_as_root h_is_number ⟨_, _, F_Root_sub, B_Root_sub, ⟨a_Root_sub, i_Root_sub, k_Root_sub⟩⟩
  have h_Root_mul := ok_Root_mul (P := P) (w := w) (base := base) T h_Root h_as_root h_is_number ⟨_, _, F_Root_mul, B_Root_mul, ⟨a_Root_mul, i_Root_mul, k_Root_mul⟩⟩
  have h_Root_radd := ok_Root_radd (P := P) (w := w) (base := base) T h_Root_add ⟨_, _, F_Root_radd, B_Root_radd, ⟨a_Root_radd, i_Root_radd, k_Root_radd⟩⟩
  have h_Root_rmul := ok_Root_rmul (P := P) (w := w) (base := base) T h_Root_mul ⟨_, _, F_Root_rmul, B_Root_rmul, ⟨a_Root_rmul, i_Root_rmul, k_Root_rmul⟩⟩
  have h_Root_rsub := ok_Root_rsub (P := P) (w := w) (base := base) T h_Root_add h_Root_neg ⟨_, _, F_Root_rsub, B_Root_rsub, ⟨a_Root_rsub, i_Root_rsub, k_Root_rsub⟩⟩
  have h_Root_less := ok_Root_less (P := P) (w := w) (base := base) T h_surd_sign h_as_root h_is_number h_BadNumber ⟨_, _, F_Root_less, B_Root_less, ⟨a_Root_less, i_Root_less, k_Root_less⟩⟩
  have h_Root_sign := ok_Root_sign (P := P) (w := w) (base := base) T h_surd_sign ⟨_, _, F_Root_sign, B_Root_sign, ⟨a_Root_sign, i_Root_sign, k_Root_sign⟩⟩
  have h_is_bound := ok_is_bound (P := P) (w := w) (base := base) T h_is_number h_is_integral ⟨_, _, F_is_bound, B_is_bound, M a_is_bound⟩
  have h_check_bounds := ok_check_bounds (P := P) (w := w) (base := base) T h_is_bound h_BadBounds ⟨_, _, F_check_bounds, B_check_bounds, M a_check_bounds⟩
  have h__law_begin := ok__law_begin (P := P) (w := w) (base := base) T  ⟨_, _, F__law_begin, B__law_begin, M a__law_begin⟩
  have h__law_draw := ok__law_draw (P := P) (w := w) (base := base) T  ⟨_, _, F__law_draw, B__law_draw, M a__law_draw⟩
  have h__law_great := ok__law_great (P := P) (w := w) (base := base) T h__law_draw ⟨_, _, F__law_great, B__law_great, M a__law_great⟩
  have h__law_number := ok__law_number (P := P) (w := w) (base := base) T h__law_draw h__law_great ⟨_, _, F__law_number, B__law_number, M a__law_number⟩
  have h__law_plus := ok__law_plus (P := P) (w := w) (base := base) T  ⟨_, _, F__law_plus, B__law_plus, M a__law_plus⟩
  have h__law_scaled := ok__law_scaled (P := P) (w := w) (base := base) T  ⟨_, _, F__law_scaled, B__law_scaled, M a__law_scaled⟩
  have h__law_sign := ok__law_sign (P := P) (w := w) (base := base) T  ⟨_, _, F__law_sign, B__law_sign, M a__law_sign⟩
  have h__law_compare := ok__law_compare (P := P) (w := w) (base := base) T h__law_sign h__law_plus h__law_scaled ⟨_, _, F__law_compare, B__law_compare, M a__law_compare⟩
  have h__law_hand := ok__law_hand (P := P) (w := w) (base := base) T h_Root h__law_draw ⟨_, _, F__law_hand, B__law_hand, M a__law_hand⟩
  have h__law_handed := ok__law_handed (P := P) (w := w) (base := base) T h__law_hand ⟨_, _, F__law_handed, B__law_handed, M a__law_handed⟩
  have h__law_vector := ok__law_vector (P := P) (w := w) (base := base) T  ⟨_, _, F__law_vector, B__law_vector, M a__law_vector⟩
  have h__law_along := ok__law_along (P := P) (w := w) (base := base) T h__law_plus h__law_scaled h__law_vector ⟨_, _, F__law_along, B__law_along, M a__law_along⟩
  have h__law_lets := ok__law_lets (P := P) (w := w) (base := base) T h__law_compare h__law_along ⟨_, _, F__law_lets, B__law_lets, M a__law_lets⟩
  have h__law_in_all := ok__law_in_all (P := P) (w := w) (base := base) T h__law_lets ⟨_, _, F__law_in_all, B__law_in_all, M a__law_in_all⟩
  have h__law_rows := ok__law_rows (P := P) (w := w) (base := base) T h__law_number h__law_draw ⟨_, _, F__law_rows, B__law_rows, M a__law_rows⟩
  have h__law_width := ok__law_width (P := P) (w := w) (base := base) T h__law_draw ⟨_, _, F__law_width, B__law_width, M a__law_width⟩
  have h__law_rows_round := ok__law_rows_round (P := P) (w := w) (base := base) T h__law_plus h__law_width h__law_along h__law_draw h__law_number ⟨_, _, F__law_rows_round, B__law_rows_round, M a__law_rows_round⟩
  have h__law_cross := ok__law_cross (P := P) (w := w) (base := base) T h__law_vector ⟨_, _, F__law_cross, B__law_cross, M a__law_cross⟩
  have h__law_least := ok__law_least (P := P) (w := w) (base := base) T h__law_compare ⟨_, _, F__law_least, B__law_least, M a__law_least⟩
  have h__law_is_integer := ok__law_is_integer (P := P) (w := w) (base := base) T  ⟨_, _, F__law_is_integer, B__law_is_integer, M a__law_is_integer⟩
  have h_is_rest := ok_is_rest (P := P) (w := w) (base := base) T h_is_integral ⟨_, _, F_is_rest, B_is_rest, M a_is_rest⟩
  have h_rest_sum := ok_rest_sum (P := P) (w := w) (base := base) T h_Root h_Root_add h_Root_radd h_Root_mul h_Root_rmul ⟨_, _, F_rest_sum, B_rest_sum, M a_rest_sum⟩
  have h__law_are_weights := ok__law_are_weights (P := P) (w := w) (base := base) T h__law_is_integer ⟨_, _, F__law_are_weights, B__law_are_weights, M a__law_are_weights⟩
  have h__law_weighed := ok__law_weighed (P := P) (w := w) (base := base) T h__law_plus h__law_scaled h__law_vector ⟨_, _, F__law_weighed, B__law_weighed, M a__law_weighed⟩
  have h__law_are_bars := ok__law_are_bars (P := P) (w := w) (base := base) T h__law_sign h__law_weighed h__law_are_weights ⟨_, _, F__law_are_bars, B__law_are_bars, M a__law_are_bars⟩
  have h__law_over := ok__law_over (P := P) (w := w) (base := base) T  ⟨_, _, F__law_over, B__law_over, M a__law_over⟩
  have h__law_closing := ok__law_closing (P := P) (w := w) (base := base) T h__law_plus h__law_over h__law_scaled h__law_draw h__law_least ⟨_, _, F__law_closing, B__law_closing, M a__law_closing⟩
  have h__law_indexes := ok__law_indexes (P := P) (w := w) (base := base) T h__law_compare ⟨_, _, F__law_indexes, B__law_indexes, M a__law_indexes⟩
  have h__law_as_weights := ok__law_as_weights (P := P) (w := w) (base := base) T  ⟨_, _, F__law_as_weights, B__law_as_weights, M a__law_as_weights⟩
  have h__law_item_spoiled := ok__law_item_spoiled (P := P) (w := w) (base := base) T h__law_draw h_Root ⟨_, _, F__law_item_spoiled, B__law_item_spoiled, M a__law_item_spoiled⟩
  have h__law_spoiled := ok__law_spoiled (P := P) (w := w) (base := base) T h__law_item_spoiled h__law_draw ⟨_, _, F__law_spoiled, B__law_spoiled, M a__law_spoiled⟩
  have h_check_bound := ok_check_bound (P := P) (w := w) (base := base) T h_is_bound h_BadBounds ⟨_, _, F_check_bound, B_check_bound, M a_check_bound⟩
  have h_is_press := ok_is_press (P := P) (w := w) (base := base) T h_as_root h_rest_sum h_is_rest h_is_integral h_check_bound h_check_bounds h_Root_mul h_Root_rmul h_Root_less ⟨_, _, F_is_press, B_is_press, M a_is_press⟩
  have h__law_are_press := ok__law_are_press (P := P) (w := w) (base := base) T h__law_compare h__law_scaled h__law_vector h__law_weighed h__law_are_weights h__law_is_integer ⟨_, _, F__law_are_press, B__law_are_press, M a__law_are_press⟩
  have h__law_some_press := ok__law_some_press (P := P) (w := w) (base := base) T h__law_are_press h__law_as_weights h__law_cross h__law_indexes ⟨_, _, F__law_some_press, B__law_some_press, M a__law_some_press⟩
  have h__law_bound_near := ok__law_bound_near (P := P) (w := w) (base := base) T h__law_plus h__law_over h__law_scaled h__law_least h__law_draw h__law_number ⟨_, _, F__law_bound_near, B__law_bound_near, M a__law_bound_near⟩
  have h__law_press_spoiled := ok__law_press_spoiled (P := P) (w := w) (base := base) T h__law_spoiled h__law_draw h_Root ⟨_, _, F__law_press_spoiled, B__law_press_spoiled, M a__law_press_spoiled⟩
  exact (ok_law (P := P) (w := w) (base := base) T h__law_are_press h_is_press h__law_press_spoiled h__law_some_press h__law_hand h__law_handed h__law_bound_near h__law_draw h__law_rows h__law_rows_round h__law_begin F_law).imp fun vs H Q E hs => hs
theorem q_gi_MOST_BOUNDS {K : PySem.W.Frag} (hb : (bsK K).all id = true) : isIntV (PySem.W.nsIn K mainGlobals "MOST_BOUNDS") 400 = true := dok (nthB hb 0)
theorem q_r_VECTORS {K : PySem.W.Frag} (hb : (bsK K).all id = true) : PySem.W.nsIn K mainGlobals "VECTORS" = some (some (.ref (A_c_VECTORS K))) := isR_ok (nthB hb 1)
theorem q_kd_VECTORS {K : PySem.W.Frag} (hb : (bsK K).all id = true) : kdB K 8 (.ref (A_c_VECTORS K)) (.tuple [.tuple [.int 1, .int 0], .tuple [.int 1, .int 1], .tuple [.int 0, .int 1], .tuple [.int (-1), .int 1], .tuple [.int (-1), .int 0], .tuple [.int (-1), .int (-1)], .tuple [.int 0, .int (-1)], .tuple [.int 1, .int (-1)]]) = true := dok (nthB hb 2)
theorem q_r_FloorError {K : PySem.W.Frag} (hb : (bsK K).all id = true) : PySem.W.nsIn K mainGlobals "FloorError" = some (some (.ref (A_c_FloorError K))) := isR_ok (nthB hb 3)
theorem q_r_BadNumber {K : PySem.W.Frag} (hb : (bsK K).all id = true) : PySem.W.nsIn K mainGlobals "BadNumber" = some (some (.ref (A_c_BadNumber K))) := isR_ok (nthB hb 4)
theorem q_r_BadBounds {K : PySem.W.Frag} (hb : (bsK K).all id = true) : PySem.W.nsIn K mainGlobals "BadBounds" = some (some (.ref (A_c_BadBounds K))) := isR_ok (nthB hb 5)
theorem q_r_Root {K : PySem.W.Frag} (hb : (bsK K).all id = true) : PySem.W.nsIn K mainGlobals "Root" = some (some (.ref (A_c_Root K))) := isR_ok (nthB hb 6)
theorem q_r_gcd {K : PySem.W.Frag} (hb : (bsK K).all id = true) : PySem.W.nsIn K mainGlobals "gcd" = some (some (.builtin "math.gcd")) := dok (nthB hb 7)
theorem q_r_isinstance {K : PySem.W.Frag} (hb : (bsK K).all id = true) : PySem.W.nsIn K mainGlobals "isinstance" = some none := dok (nthB hb 8)
theorem q_r_len {K : PySem.W.Frag} (hb : (bsK K).all id = true) : PySem.W.nsIn K mainGlobals "len" = some none := dok (nthB hb 9)
theorem q_r_tuple {K : PySem.W.Frag} (hb : (bsK K).all id = true) : PySem.W.nsIn K mainGlobals "tuple" = some none := dok (nthB hb 10)
theorem q_r_enumerate {K : PySem.W.Frag} (hb : (bsK K).all id = true) : PySem.W.nsIn K mainGlobals "enumerate" = some none := dok (nthB hb 11)
theorem q_r_list {K : PySem.W.Frag} (hb : (bsK K).all id = true) : PySem.W.nsIn K mainGlobals "list" = some none := dok (nthB hb 12)
theorem q_r_int {K : PySem.W.Frag} (hb : (bsK K).all id = true) : PySem.W.nsIn K mainGlobals "int" = some none := dok (nthB hb 13)
theorem q_r_range {K : PySem.W.Frag} (hb : (bsK K).all id = true) : PySem.W.nsIn K mainGlobals "range" = some none := dok (nthB hb 14)
theorem q_r_bool {K : PySem.W.Frag} (hb : (bsK K).all id = true) : PySem.W.nsIn K mainGlobals "bool" = some none := dok (nthB hb 15)
theorem q_r_sorted {K : PySem.W.Frag} (hb : (bsK K).all id = true) : PySem.W.nsIn K mainGlobals "sorted" = some none := dok (nthB hb 16)
theorem q_r_str {K : PySem.W.Frag} (hb : (bsK K).all id = true) : PySem.W.nsIn K mainGlobals "str" = some none := dok (nthB hb 17)
theorem q_r_max {K : PySem.W.Frag} (hb : (bsK K).all id = true) : PySem.W.nsIn K mainGlobals "max" = some none := dok (nthB hb 18)
theorem q_r_abs {K : PySem.W.Frag} (hb : (bsK K).all id = true) : PySem.W.nsIn K mainGlobals "abs" = some none := dok (nthB hb 19)
theorem q_r_min {K : PySem.W.Frag} (hb : (bsK K).all id = true) : PySem.W.nsIn K mainGlobals "min" = some none := dok (nthB hb 20)
theorem q_r_pg {K : PySem.W.Frag} (hb : (bsK K).all id = true) : PySem.W.plainGet K (A_c_Root K) Str.empty = true := dok (nthB hb 21)
theorem q_r_hd {K : PySem.W.Frag} (hb : (bsK K).all id = true) : PySem.W.hasDictIn K (A_c_Root K) = true := dok (nthB hb 22)
theorem q_r_po {K : PySem.W.Frag} (hb : (bsK K).all id = true) : PySem.W.plainOver K (A_c_Root K) = true := dok (nthB hb 23)
theorem q_r_sa {K : PySem.W.Frag} (hb : (bsK K).all id = true) : PySem.W.findIn K (.ref (A_c_Root K)) "__setattr__" = some (some (.builtin "object.__setattr__")) := dok (nthB hb 24)
theorem q_r_ca {K : PySem.W.Frag} (hb : (bsK K).all id = true) : PySem.W.findIn K (.ref (A_c_Root K)) "__class__" = some (some (.builtin "object.__class__")) := dok (nthB hb 25)
theorem q_r_hm {K : PySem.W.Frag} (hb : (bsK K).all id = true) : PySem.W.mroIn K (A_c_Root K) (.type "object") = some true := dok (nthB hb 26)
theorem q_r_ic {K : PySem.W.Frag} (hb : (bsK K).all id = true) : PySem.W.isClsIn K (A_c_Root K) = true := dok (nthB hb 27)
theorem q_r_tc {K : PySem.W.Frag} (hb : (bsK K).all id = true) : PySem.W.typeIn K (.ref (A_c_Root K)) = some (.type "type") := dok (nthB hb 28)
theorem q_r_s1 {K : PySem.W.Frag} (hb : (bsK K).all id = true) : PySem.W.mroIn K (A_c_Root K) (.type "int") = some false := dok (nthB hb 29)
theorem q_r_s2 {K : PySem.W.Frag} (hb : (bsK K).all id = true) : PySem.W.mroIn K (A_c_Root K) (.type "bool") = some false := dok (nthB hb 30)
theorem q_r_nt {K : PySem.W.Frag} (hb : (bsK K).all id = true) : PySem.W.findIn K (.ref (A_c_Root K)) "top" = some none := dok (nthB hb 31)
theorem q_r_nr {K : PySem.W.Frag} (hb : (bsK K).all id = true) : PySem.W.findIn K (.ref (A_c_Root K)) "root" = some none := dok (nthB hb 32)
theorem q_r_nb {K : PySem.W.Frag} (hb : (bsK K).all id = true) : PySem.W.findIn K (.ref (A_c_Root K)) "bottom" = some none := dok (nthB hb 33)
theorem q_r_sf {K : PySem.W.Frag} (hb : (bsK K).all id = true) : PySem.W.selfFirst K (A_c_Root K) = true := dok (nthB hb 34)
theorem q_r_ra {K : PySem.W.Frag} (hb : (bsK K).all id = true) : PySem.W.findIn K (.ref (A_c_Root K)) "__radd__" = some (some (.ref (A_gAX K))) := isR_ok (nthB hb 35)
theorem q_r_rs {K : PySem.W.Frag} (hb : (bsK K).all id = true) : PySem.W.findIn K (.ref (A_c_Root K)) "__rsub__" = some (some (.ref (A_gSX K))) := isR_ok (nthB hb 36)
theorem q_r_rm {K : PySem.W.Frag} (hb : (bsK K).all id = true) : PySem.W.findIn K (.ref (A_c_Root K)) "__rmul__" = some (some (.ref (A_gMX K))) := isR_ok (nthB hb 37)
theorem q_e_sa_BadNumber {K : PySem.W.Frag} (hb : (bsK K).all id = true) : PySem.W.findIn K (.ref (A_c_BadNumber K)) "__setattr__" = some (some (.builtin "object.__setattr__")) := dok (nthB hb 39)
theorem q_e_e_BadNumber {K : PySem.W.Frag} (hb : (bsK K).all id = true) : PySem.W.mroIn K (A_c_BadNumber K) (.type "BaseException") = some true := dok (nthB hb 40)
theorem q_e_t_BadNumber {K : PySem.W.Frag} (hb : (bsK K).all id = true) : PySem.W.typeIn K (.ref (A_c_BadNumber K)) = some (.type "type") := dok (nthB hb 41)
theorem q_e_k_BadNumber {K : PySem.W.Frag} (hb : (bsK K).all id = true) : PySem.W.keepIn K (.ref (A_c_BadNumber K)) = true := dok (nthB hb 42)
theorem q_e_n_BadNumber {K : PySem.W.Frag} (hb : (bsK K).all id = true) : PySem.W.findIn K (.ref (A_c_BadNumber K)) "value" = some none := dok (nthB hb 43)
theorem q_e_ga_BadNumber {K : PySem.W.Frag} (hb : (bsK K).all id = true) : PySem.W.findIn K (.ref (A_c_BadNumber K)) "__getattribute__" = some (some (.builtin "BaseException.__getattribute__")) := dok (nthB hb 44)
theorem q_e_gg_BadNumber {K : PySem.W.Frag} (hb : (bsK K).all id = true) : PySem.W.findIn K (.ref (A_c_BadNumber K)) "__getattr__" = some none := dok (nthB hb 45)
theorem q_e_hd_BadNumber {K : PySem.W.Frag} (hb : (bsK K).all id = true) : PySem.W.hasDictIn K (A_c_BadNumber K) = true := dok (nthB hb 46)
theorem q_e_ic_BadNumber {K : PySem.W.Frag} (hb : (bsK K).all id = true) : PySem.W.isClsIn K (A_c_BadNumber K) = true := dok (nthB hb 47)
theorem q_e_s_BadNumber {K : PySem.W.Frag} (hb : (bsK K).all id = true) : PySem.W.mroIn K (A_c_BadNumber K) (.ref (A_c_BadNumber K)) = some true := dok (nthB hb 48)
theorem q_e_sa_BadBounds {K : PySem.W.Frag} (hb : (bsK K).all id = true) : PySem.W.findIn K (.ref (A_c_BadBounds K)) "__setattr__" = some (some (.builtin "object.__setattr__")) := dok (nthB hb 50)
theorem q_e_e_BadBounds {K : PySem.W.Frag} (hb : (bsK K).all id = true) : PySem.W.mroIn K (A_c_BadBounds K) (.type "BaseException") = some true := dok (nthB hb 51)
theorem q_e_t_BadBounds {K : PySem.W.Frag} (hb : (bsK K).all id = true) : PySem.W.typeIn K (.ref (A_c_BadBounds K)) = some (.type "type") := dok (nthB hb 52)
theorem q_e_k_BadBounds {K : PySem.W.Frag} (hb : (bsK K).all id = true) : PySem.W.keepIn K (.ref (A_c_BadBounds K)) = true := dok (nthB hb 53)
theorem q_e_n_BadBounds {K : PySem.W.Frag} (hb : (bsK K).all id = true) : PySem.W.findIn K (.ref (A_c_BadBounds K)) "index" = some none := dok (nthB hb 54)
theorem q_e_ga_BadBounds {K : PySem.W.Frag} (hb : (bsK K).all id = true) : PySem.W.findIn K (.ref (A_c_BadBounds K)) "__getattribute__" = some (some (.builtin "BaseException.__getattribute__")) := dok (nthB hb 55)
theorem q_e_gg_BadBounds {K : PySem.W.Frag} (hb : (bsK K).all id = true) : PySem.W.findIn K (.ref (A_c_BadBounds K)) "__getattr__" = some none := dok (nthB hb 56)
theorem q_e_hd_BadBounds {K : PySem.W.Frag} (hb : (bsK K).all id = true) : PySem.W.hasDictIn K (A_c_BadBounds K) = true := dok (nthB hb 57)
theorem q_e_ic_BadBounds {K : PySem.W.Frag} (hb : (bsK K).all id = true) : PySem.W.isClsIn K (A_c_BadBounds K) = true := dok (nthB hb 58)
theorem q_e_s_BadBounds {K : PySem.W.Frag} (hb : (bsK K).all id = true) : PySem.W.mroIn K (A_c_BadBounds K) (.ref (A_c_BadBounds K)) = some true := dok (nthB hb 59)
theorem q_a_is_integral {K : PySem.W.Frag} (hb : (bsK K).all id = true) : PySem.W.nsIn K mainGlobals "is_integral" = some (some (.ref (A_f_is_integral K))) := isR_ok (nthB hb 60)
theorem q_d_is_integral {K : PySem.W.Frag} (hb : (bsK K).all id = true) : PySem.W.codeIn K (fdK K (A_f_is_integral K)).code "is_integral" = true := dok (nthB hb 61)
theorem q_k_is_integral {K : PySem.W.Frag} (hb : (bsK K).all id = true) : PySem.W.keepIn K (.ref (A_f_is_integral K)) = true := dok (nthB hb 62)
theorem q_a_BadBounds_init {K : PySem.W.Frag} (hb : (bsK K).all id = true) : PySem.W.findIn K (.ref (A_c_BadBounds K)) "__init__" = some (some (.ref (A_f_BadBounds_init K))) := isR_ok (nthB hb 63)
theorem q_t_BadBounds_init {K : PySem.W.Frag} (hb : (bsK K).all id = true) : PySem.W.typeIn K (.ref (A_f_BadBounds_init K)) = some (.type "function") := dok (nthB hb 64)
theorem q_d_BadBounds_init {K : PySem.W.Frag} (hb : (bsK K).all id = true) : PySem.W.codeIn K (fdK K (A_f_BadBounds_init K)).code "BadBounds.__init__" = true := dok (nthB hb 65)
theorem q_k_BadBounds_init {K : PySem.W.Frag} (hb : (bsK K).all id = true) : PySem.W.keepIn K (.ref (A_f_BadBounds_init K)) = true := dok (nthB hb 66)
theorem q_a_BadNumber_init {K : PySem.W.Frag} (hb : (bsK K).all id = true) : PySem.W.findIn K (.ref (A_c_BadNumber K)) "__init__" = some (some (.ref (A_f_BadNumber_init K))) := isR_ok (nthB hb 67)
theorem q_t_BadNumber_init {K : PySem.W.Frag} (hb : (bsK K).all id = true) : PySem.W.typeIn K (.ref (A_f_BadNumber_init K)) = some (.type "function") := dok (nthB hb 68)
theorem q_d_BadNumber_init {K : PySem.W.Frag} (hb : (bsK K).all id = true) : PySem.W.codeIn K (fdK K (A_f_BadNumber_init K)).code "BadNumber.__init__" = true := dok (nthB hb 69)
theorem q_k_BadNumber_init {K : PySem.W.Frag} (hb : (bsK K).all id = true) : PySem.W.keepIn K (.ref (A_f_BadNumber_init K)) = true := dok (nthB hb 70)
theorem q_a_Root_init {K : PySem.W.Frag} (hb : (bsK K).all id = true) : PySem.W.findIn K (.ref (A_c_Root K)) "__init__" = some (some (.ref (A_f_Root_init K))) := isR_ok (nthB hb 71)
theorem q_i_Root_init {K : PySem.W.Frag} (hb : (bsK K).all id = true) : PySem.W.isFn K (.ref (A_f_Root_init K)) = true := dok (nthB hb 72)
theorem q_mk_Root_init {K : PySem.W.Frag} (hb : (bsK K).all id = true) : PySem.W.makesIn K (A_c_Root K) = true := dok (nthB hb 73)
theorem q_kc_Root_init {K : PySem.W.Frag} (hb : (bsK K).all id = true) : PySem.W.keepIn K (.ref (A_c_Root K)) = true := dok (nthB hb 74)
theorem q_d_Root_init {K : PySem.W.Frag} (hb : (bsK K).all id = true) : PySem.W.codeIn K (fdK K (A_f_Root_init K)).code "Root.__init__" = true := dok (nthB hb 75)
theorem q_k_Root_init {K : PySem.W.Frag} (hb : (bsK K).all id = true) : PySem.W.keepIn K (.ref (A_f_Root_init K)) = true := dok (nthB hb 76)
theorem q_a_Root_eq {K : PySem.W.Frag} (hb : (bsK K).all id = true) : PySem.W.findIn K (.ref (A_c_Root K)) "__eq__" = some (some (.ref (A_f_Root_eq K))) := isR_ok (nthB hb 77)
theorem q_i_Root_eq {K : PySem.W.Frag} (hb : (bsK K).all id = true) : PySem.W.isFn K (.ref (A_f_Root_eq K)) = true := dok (nthB hb 78)
theorem q_d_Root_eq {K : PySem.W.Frag} (hb : (bsK K).all id = true) : PySem.W.codeIn K (fdK K (A_f_Root_eq K)).code "Root.__eq__" = true := dok (nthB hb 79)
theorem q_k_Root_eq {K : PySem.W.Frag} (hb : (bsK K).all id = true) : PySem.W.keepIn K (.ref (A_f_Root_eq K)) = true := dok (nthB hb 80)
theorem q_a_Root_neg {K : PySem.W.Frag} (hb : (bsK K).all id = true) : PySem.W.findIn K (.ref (A_c_Root K)) "__neg__" = some (some (.ref (A_f_Root_neg K))) := isR_ok (nthB hb 81)
theorem q_i_Root_neg {K : PySem.W.Frag} (hb : (bsK K).all id = true) : PySem.W.isFn K (.ref (A_f_Root_neg K)) = true := dok (nthB hb 82)
theorem q_d_Root_neg {K : PySem.W.Frag} (hb : (bsK K).all id = true) : PySem.W.codeIn K (fdK K (A_f_Root_neg K)).code "Root.__neg__" = true := dok (nthB hb 83)
theorem q_k_Root_neg {K : PySem.W.Frag} (hb : (bsK K).all id = true) : PySem.W.keepIn K (.ref (A_f_Root_neg K)) = true := dok (nthB hb 84)
theorem q_a_is_number {K : PySem.W.Frag} (hb : (bsK K).all id = true) : PySem.W.nsIn K mainGlobals "is_number" = some (some (.ref (A_f_is_number K))) := isR_ok (nthB hb 85)
theorem q_d_is_number {K : PySem.W.Frag} (hb : (bsK K).all id = true) : PySem.W.codeIn K (fdK K (A_f_is_number K)).code "is_number" = true := dok (nthB hb 86)
theorem q_k_is_number {K : PySem.W.Frag} (hb : (bsK K).all id = true) : PySem.W.keepIn K (.ref (A_f_is_number K)) = true := dok (nthB hb 87)
theorem q_a_as_root {K : PySem.W.Frag} (hb : (bsK K).all id = true) : PySem.W.nsIn K mainGlobals "as_root" = some (some (.ref (A_f_as_root K))) := isR_ok (nthB hb 88)
theorem q_d_as_root {K : PySem.W.Frag} (hb : (bsK K).all id = true) : PySem.W.codeIn K (fdK K (A_f_as_root K)).code "as_root" = true := dok (nthB hb 89)
theorem q_k_as_root {K : PySem.W.Frag} (hb : (bsK K).all id = true) : PySem.W.keepIn K (.ref (A_f_as_root K)) = true := dok (nthB hb 90)
theorem q_a_surd_sign {K : PySem.W.Frag} (hb : (bsK K).all id = true) : PySem.W.nsIn K mainGlobals "surd_sign" = some (some (.ref (A_f_surd_sign K))) := isR_ok (nthB hb 91)
theorem q_d_surd_sign {K : PySem.W.Frag} (hb : (bsK K).all id = true) : PySem.W.codeIn K (fdK K (A_f_surd_sign K)).code "surd_sign" = true := dok (nthB hb 92)
theorem q_k_surd_sign {K : PySem.W.Frag} (hb : (bsK K).all id = true) : PySem.W.keepIn K (.ref (A_f_surd_sign K)) = true := dok (nthB hb 93)
theorem q_a_Root_add {K : PySem.W.Frag} (hb : (bsK K).all id = true) : PySem.W.findIn K (.ref (A_c_Root K)) "__add__" = some (some (.ref (A_f_Root_add K))) := isR_ok (nthB hb 94)
theorem q_i_Root_add {K : PySem.W.Frag} (hb : (bsK K).all id = true) : PySem.W.isFn K (.ref (A_f_Root_add K)) = true := dok (nthB hb 95)
theorem q_d_Root_add {K : PySem.W.Frag} (hb : (bsK K).all id = true) : PySem.W.codeIn K (fdK K (A_f_Root_add K)).code "Root.__add__" = true := dok (nthB hb 96)
theorem q_k_Root_add {K : PySem.W.Frag} (hb : (bsK K).all id = true) : PySem.W.keepIn K (.ref (A_f_Root_add K)) = true := dok (nthB hb 97)
theorem q_a_Root_sub {K : PySem.W.Frag} (hb : (bsK K).all id = true) : PySem.W.findIn K (.ref (A_c_Root K)) "__sub__" = some (some (.ref (A_f_Root_sub K))) := isR_ok (nthB hb 98)
theorem q_i_Root_sub {K : PySem.W.Frag} (hb : (bsK K).all id = true) : PySem.W.isFn K (.ref (A_f_Root_sub K)) = true := dok (nthB hb 99)
theorem q_d_Root_sub {K : PySem.W.Frag} (hb : (bsK K).all id = true) : PySem.W.codeIn K (fdK K (A_f_Root_sub K)).code "Root.__sub__" = true := dok (nthB hb 100)
theorem q_k_Root_sub {K : PySem.W.Frag} (hb : (bsK K).all id = true) : PySem.W.keepIn K (.ref (A_f_Root_sub K)) = true := dok (nthB hb 101)
theorem q_a_Root_mul {K : PySem.W.Frag} (hb : (bsK K).all id = true) : PySem.W.findIn K (.ref (A_c_Root K)) "__mul__" = some (some (.ref (A_f_Root_mul K))) := isR_ok (nthB hb 102)
theorem q_i_Root_mul {K : PySem.W.Frag} (hb : (bsK K).all id = true) : PySem.W.isFn K (.ref (A_f_Root_mul K)) = true := dok (nthB hb 103)
theorem q_d_Root_mul {K : PySem.W.Frag} (hb : (bsK K).all id = true) : PySem.W.codeIn K (fdK K (A_f_Root_mul K)).code "Root.__mul__" = true := dok (nthB hb 104)
theorem q_k_Root_mul {K : PySem.W.Frag} (hb : (bsK K).all id = true) : PySem.W.keepIn K (.ref (A_f_Root_mul K)) = true := dok (nthB hb 105)
theorem q_a_Root_radd {K : PySem.W.Frag} (hb : (bsK K).all id = true) : PySem.W.findIn K (.ref (A_c_Root K)) "__radd__" = some (some (.ref (A_f_Root_radd K))) := isR_ok (nthB hb 106)
theorem q_i_Root_radd {K : PySem.W.Frag} (hb : (bsK K).all id = true) : PySem.W.isFn K (.ref (A_f_Root_radd K)) = true := dok (nthB hb 107)
theorem q_d_Root_radd {K : PySem.W.Frag} (hb : (bsK K).all id = true) : PySem.W.codeIn K (fdK K (A_f_Root_radd K)).code "Root.__radd__" = true := dok (nthB hb 108)
theorem q_k_Root_radd {K : PySem.W.Frag} (hb : (bsK K).all id = true) : PySem.W.keepIn K (.ref (A_f_Root_radd K)) = true := dok (nthB hb 109)
theorem q_a_Root_rmul {K : PySem.W.Frag} (hb : (bsK K).all id = true) : PySem.W.findIn K (.ref (A_c_Root K)) "__rmul__" = some (some (.ref (A_f_Root_rmul K))) := isR_ok (nthB hb 110)
theorem q_i_Root_rmul {K : PySem.W.Frag} (hb : (bsK K).all id = true) : PySem.W.isFn K (.ref (A_f_Root_rmul K)) = true := dok (nthB hb 111)
theorem q_d_Root_rmul {K : PySem.W.Frag} (hb : (bsK K).all id = true) : PySem.W.codeIn K (fdK K (A_f_Root_rmul K)).code "Root.__rmul__" = true := dok (nthB hb 112)
theorem q_k_Root_rmul {K : PySem.W.Frag} (hb : (bsK K).all id = true) : PySem.W.keepIn K (.ref (A_f_Root_rmul K)) = true := dok (nthB hb 113)
theorem q_a_Root_rsub {K : PySem.W.Frag} (hb : (bsK K).all id = true) : PySem.W.findIn K (.ref (A_c_Root K)) "__rsub__" = some (some (.ref (A_f_Root_rsub K))) := isR_ok (nthB hb 114)
theorem q_i_Root_rsub {K : PySem.W.Frag} (hb : (bsK K).all id = true) : PySem.W.isFn K (.ref (A_f_Root_rsub K)) = true := dok (nthB hb 115)
theorem q_d_Root_rsub {K : PySem.W.Frag} (hb : (bsK K).all id = true) : PySem.W.codeIn K (fdK K (A_f_Root_rsub K)).code "Root.__rsub__" = true := dok (nthB hb 116)
theorem q_k_Root_rsub {K : PySem.W.Frag} (hb : (bsK K).all id = true) : PySem.W.keepIn K (.ref (A_f_Root_rsub K)) = true := dok (nthB hb 117)
theorem q_a_Root_less {K : PySem.W.Frag} (hb : (bsK K).all id = true) : PySem.W.findIn K (.ref (A_c_Root K)) "less" = some (some (.ref (A_f_Root_less K))) := isR_ok (nthB hb 118)
theorem q_i_Root_less {K : PySem.W.Frag} (hb : (bsK K).all id = true) : PySem.W.isFn K (.ref (A_f_Root_less K)) = true := dok (nthB hb 119)
theorem q_d_Root_less {K : PySem.W.Frag} (hb : (bsK K).all id = true) : PySem.W.codeIn K (fdK K (A_f_Root_less K)).code "Root.less" = true := dok (nthB hb 120)
theorem q_k_Root_less {K : PySem.W.Frag} (hb : (bsK K).all id = true) : PySem.W.keepIn K (.ref (A_f_Root_less K)) = true := dok (nthB hb 121)
theorem q_a_Root_sign {K : PySem.W.Frag} (hb : (bsK K).all id = true) : PySem.W.findIn K (.ref (A_c_Root K)) "sign" = some (some (.ref (A_f_Root_sign K))) := isR_ok (nthB hb 122)
theorem q_i_Root_sign {K : PySem.W.Frag} (hb : (bsK K).all id = true) : PySem.W.isFn K (.ref (A_f_Root_sign K)) = true := dok (nthB hb 123)
theorem q_d_Root_sign {K : PySem.W.Frag} (hb : (bsK K).all id = true) : PySem.W.codeIn K (fdK K (A_f_Root_sign K)).code "Root.sign" = true := dok (nthB hb 124)
theorem q_k_Root_sign {K : PySem.W.Frag} (hb : (bsK K).all id = true) : PySem.W.keepIn K (.ref (A_f_Root_sign K)) = true := dok (nthB hb 125)
theorem q_a_is_bound {K : PySem.W.Frag} (hb : (bsK K).all id = true) : PySem.W.nsIn K mainGlobals "is_bound" = some (some (.ref (A_f_is_bound K))) := isR_ok (nthB hb 126)
theorem q_d_is_bound {K : PySem.W.Frag} (hb : (bsK K).all id = true) : PySem.W.codeIn K (fdK K (A_f_is_bound K)).code "is_bound" = true := dok (nthB hb 127)
theorem q_k_is_bound {K : PySem.W.Frag} (hb : (bsK K).all id = true) : PySem.W.keepIn K (.ref (A_f_is_bound K)) = true := dok (nthB hb 128)
theorem q_a_check_bounds {K : PySem.W.Frag} (hb : (bsK K).all id = true) : PySem.W.nsIn K mainGlobals "check_bounds" = some (some (.ref (A_f_check_bounds K))) := isR_ok (nthB hb 129)
theorem q_d_check_bounds {K : PySem.W.Frag} (hb : (bsK K).all id = true) : PySem.W.codeIn K (fdK K (A_f_check_bounds K)).code "check_bounds" = true := dok (nthB hb 130)
theorem q_k_check_bounds {K : PySem.W.Frag} (hb : (bsK K).all id = true) : PySem.W.keepIn K (.ref (A_f_check_bounds K)) = true := dok (nthB hb 131)
theorem q_a__law_begin {K : PySem.W.Frag} (hb : (bsK K).all id = true) : PySem.W.nsIn K mainGlobals "_law_begin" = some (some (.ref (A_f__law_begin K))) := isR_ok (nthB hb 132)
theorem q_d__law_begin {K : PySem.W.Frag} (hb : (bsK K).all id = true) : PySem.W.codeIn K (fdK K (A_f__law_begin K)).code "_law_begin" = true := dok (nthB hb 133)
theorem q_k__law_begin {K : PySem.W.Frag} (hb : (bsK K).all id = true) : PySem.W.keepIn K (.ref (A_f__law_begin K)) = true := dok (nthB hb 134)
theorem q_a__law_draw {K : PySem.W.Frag} (hb : (bsK K).all id = true) : PySem.W.nsIn K mainGlobals "_law_draw" = some (some (.ref (A_f__law_draw K))) := isR_ok (nthB hb 135)
theorem q_d__law_draw {K : PySem.W.Frag} (hb : (bsK K).all id = true) : PySem.W.codeIn K (fdK K (A_f__law_draw K)).code "_law_draw" = true := dok (nthB hb 136)
theorem q_k__law_draw {K : PySem.W.Frag} (hb : (bsK K).all id = true) : PySem.W.keepIn K (.ref (A_f__law_draw K)) = true := dok (nthB hb 137)
theorem q_a__law_great {K : PySem.W.Frag} (hb : (bsK K).all id = true) : PySem.W.nsIn K mainGlobals "_law_great" = some (some (.ref (A_f__law_great K))) := isR_ok (nthB hb 138)
theorem q_d__law_great {K : PySem.W.Frag} (hb : (bsK K).all id = true) : PySem.W.codeIn K (fdK K (A_f__law_great K)).code "_law_great" = true := dok (nthB hb 139)
theorem q_k__law_great {K : PySem.W.Frag} (hb : (bsK K).all id = true) : PySem.W.keepIn K (.ref (A_f__law_great K)) = true := dok (nthB hb 140)
theorem q_a__law_number {K : PySem.W.Frag} (hb : (bsK K).all id = true) : PySem.W.nsIn K mainGlobals "_law_number" = some (some (.ref (A_f__law_number K))) := isR_ok (nthB hb 141)
theorem q_d__law_number {K : PySem.W.Frag} (hb : (bsK K).all id = true) : PySem.W.codeIn K (fdK K (A_f__law_number K)).code "_law_number" = true := dok (nthB hb 142)
theorem q_k__law_number {K : PySem.W.Frag} (hb : (bsK K).all id = true) : PySem.W.keepIn K (.ref (A_f__law_number K)) = true := dok (nthB hb 143)
theorem q_a__law_plus {K : PySem.W.Frag} (hb : (bsK K).all id = true) : PySem.W.nsIn K mainGlobals "_law_plus" = some (some (.ref (A_f__law_plus K))) := isR_ok (nthB hb 144)
theorem q_d__law_plus {K : PySem.W.Frag} (hb : (bsK K).all id = true) : PySem.W.codeIn K (fdK K (A_f__law_plus K)).code "_law_plus" = true := dok (nthB hb 145)
theorem q_k__law_plus {K : PySem.W.Frag} (hb : (bsK K).all id = true) : PySem.W.keepIn K (.ref (A_f__law_plus K)) = true := dok (nthB hb 146)
theorem q_a__law_scaled {K : PySem.W.Frag} (hb : (bsK K).all id = true) : PySem.W.nsIn K mainGlobals "_law_scaled" = some (some (.ref (A_f__law_scaled K))) := isR_ok (nthB hb 147)
theorem q_d__law_scaled {K : PySem.W.Frag} (hb : (bsK K).all id = true) : PySem.W.codeIn K (fdK K (A_f__law_scaled K)).code "_law_scaled" = true := dok (nthB hb 148)
theorem q_k__law_scaled {K : PySem.W.Frag} (hb : (bsK K).all id = true) : PySem.W.keepIn K (.ref (A_f__law_scaled K)) = true := dok (nthB hb 149)
theorem q_a__law_sign {K : PySem.W.Frag} (hb : (bsK K).all id = true) : PySem.W.nsIn K mainGlobals "_law_sign" = some (some (.ref (A_f__law_sign K))) := isR_ok (nthB hb 150)
theorem q_d__law_sign {K : PySem.W.Frag} (hb : (bsK K).all id = true) : PySem.W.codeIn K (fdK K (A_f__law_sign K)).code "_law_sign" = true := dok (nthB hb 151)
theorem q_k__law_sign {K : PySem.W.Frag} (hb : (bsK K).all id = true) : PySem.W.keepIn K (.ref (A_f__law_sign K)) = true := dok (nthB hb 152)
theorem q_a__law_compare {K : PySem.W.Frag} (hb : (bsK K).all id = true) : PySem.W.nsIn K mainGlobals "_law_compare" = some (some (.ref (A_f__law_compare K))) := isR_ok (nthB hb 153)
theorem q_d__law_compare {K : PySem.W.Frag} (hb : (bsK K).all id = true) : PySem.W.codeIn K (fdK K (A_f__law_compare K)).code "_law_compare" = true := dok (nthB hb 154)
theorem q_k__law_compare {K : PySem.W.Frag} (hb : (bsK K).all id = true) : PySem.W.keepIn K (.ref (A_f__law_compare K)) = true := dok (nthB hb 155)
theorem q_a__law_hand {K : PySem.W.Frag} (hb : (bsK K).all id = true) : PySem.W.nsIn K mainGlobals "_law_hand" = some (some (.ref (A_f__law_hand K))) := isR_ok (nthB hb 156)
theorem q_d__law_hand {K : PySem.W.Frag} (hb : (bsK K).all id = true) : PySem.W.codeIn K (fdK K (A_f__law_hand K)).code "_law_hand" = true := dok (nthB hb 157)
theorem q_k__law_hand {K : PySem.W.Frag} (hb : (bsK K).all id = true) : PySem.W.keepIn K (.ref (A_f__law_hand K)) = true := dok (nthB hb 158)
theorem q_a__law_handed {K : PySem.W.Frag} (hb : (bsK K).all id = true) : PySem.W.nsIn K mainGlobals "_law_handed" = some (some (.ref (A_f__law_handed K))) := isR_ok (nthB hb 159)
theorem q_d__law_handed {K : PySem.W.Frag} (hb : (bsK K).all id = true) : PySem.W.codeIn K (fdK K (A_f__law_handed K)).code "_law_handed" = true := dok (nthB hb 160)
theorem q_k__law_handed {K : PySem.W.Frag} (hb : (bsK K).all id = true) : PySem.W.keepIn K (.ref (A_f__law_handed K)) = true := dok (nthB hb 161)
theorem q_a__law_vector {K : PySem.W.Frag} (hb : (bsK K).all id = true) : PySem.W.nsIn K mainGlobals "_law_vector" = some (some (.ref (A_f__law_vector K))) := isR_ok (nthB hb 162)
theorem q_d__law_vector {K : PySem.W.Frag} (hb : (bsK K).all id = true) : PySem.W.codeIn K (fdK K (A_f__law_vector K)).code "_law_vector" = true := dok (nthB hb 163)
theorem q_k__law_vector {K : PySem.W.Frag} (hb : (bsK K).all id = true) : PySem.W.keepIn K (.ref (A_f__law_vector K)) = true := dok (nthB hb 164)
theorem q_a__law_along {K : PySem.W.Frag} (hb : (bsK K).all id = true) : PySem.W.nsIn K mainGlobals "_law_along" = some (some (.ref (A_f__law_along K))) := isR_ok (nthB hb 165)
theorem q_d__law_along {K : PySem.W.Frag} (hb : (bsK K).all id = true) : PySem.W.codeIn K (fdK K (A_f__law_along K)).code "_law_along" = true := dok (nthB hb 166)
theorem q_k__law_along {K : PySem.W.Frag} (hb : (bsK K).all id = true) : PySem.W.keepIn K (.ref (A_f__law_along K)) = true := dok (nthB hb 167)
theorem q_a__law_lets {K : PySem.W.Frag} (hb : (bsK K).all id = true) : PySem.W.nsIn K mainGlobals "_law_lets" = some (some (.ref (A_f__law_lets K))) := isR_ok (nthB hb 168)
theorem q_d__law_lets {K : PySem.W.Frag} (hb : (bsK K).all id = true) : PySem.W.codeIn K (fdK K (A_f__law_lets K)).code "_law_lets" = true := dok (nthB hb 169)
theorem q_k__law_lets {K : PySem.W.Frag} (hb : (bsK K).all id = true) : PySem.W.keepIn K (.ref (A_f__law_lets K)) = true := dok (nthB hb 170)
theorem q_a__law_in_all {K : PySem.W.Frag} (hb : (bsK K).all id = true) : PySem.W.nsIn K mainGlobals "_law_in_all" = some (some (.ref (A_f__law_in_all K))) := isR_ok (nthB hb 171)
theorem q_d__law_in_all {K : PySem.W.Frag} (hb : (bsK K).all id = true) : PySem.W.codeIn K (fdK K (A_f__law_in_all K)).code "_law_in_all" = true := dok (nthB hb 172)
theorem q_k__law_in_all {K : PySem.W.Frag} (hb : (bsK K).all id = true) : PySem.W.keepIn K (.ref (A_f__law_in_all K)) = true := dok (nthB hb 173)
theorem q_a__law_rows {K : PySem.W.Frag} (hb : (bsK K).all id = true) : PySem.W.nsIn K mainGlobals "_law_rows" = some (some (.ref (A_f__law_rows K))) := isR_ok (nthB hb 174)
theorem q_d__law_rows {K : PySem.W.Frag} (hb : (bsK K).all id = true) : PySem.W.codeIn K (fdK K (A_f__law_rows K)).code "_law_rows" = true := dok (nthB hb 175)
theorem q_k__law_rows {K : PySem.W.Frag} (hb : (bsK K).all id = true) : PySem.W.keepIn K (.ref (A_f__law_rows K)) = true := dok (nthB hb 176)
theorem q_a__law_width {K : PySem.W.Frag} (hb : (bsK K).all id = true) : PySem.W.nsIn K mainGlobals "_law_width" = some (some (.ref (A_f__law_width K))) := isR_ok (nthB hb 177)
theorem q_d__law_width {K : PySem.W.Frag} (hb : (bsK K).all id = true) : PySem.W.codeIn K (fdK K (A_f__law_width K)).code "_law_width" = true := dok (nthB hb 178)
theorem q_k__law_width {K : PySem.W.Frag} (hb : (bsK K).all id = true) : PySem.W.keepIn K (.ref (A_f__law_width K)) = true := dok (nthB hb 179)
theorem q_a__law_rows_round {K : PySem.W.Frag} (hb : (bsK K).all id = true) : PySem.W.nsIn K mainGlobals "_law_rows_round" = some (some (.ref (A_f__law_rows_round K))) := isR_ok (nthB hb 180)
theorem q_d__law_rows_round {K : PySem.W.Frag} (hb : (bsK K).all id = true) : PySem.W.codeIn K (fdK K (A_f__law_rows_round K)).code "_law_rows_round" = true := dok (nthB hb 181)
theorem q_k__law_rows_round {K : PySem.W.Frag} (hb : (bsK K).all id = true) : PySem.W.keepIn K (.ref (A_f__law_rows_round K)) = true := dok (nthB hb 182)
theorem q_a__law_cross {K : PySem.W.Frag} (hb : (bsK K).all id = true) : PySem.W.nsIn K mainGlobals "_law_cross" = some (some (.ref (A_f__law_cross K))) := isR_ok (nthB hb 183)
theorem q_d__law_cross {K : PySem.W.Frag} (hb : (bsK K).all id = true) : PySem.W.codeIn K (fdK K (A_f__law_cross K)).code "_law_cross" = true := dok (nthB hb 184)
theorem q_k__law_cross {K : PySem.W.Frag} (hb : (bsK K).all id = true) : PySem.W.keepIn K (.ref (A_f__law_cross K)) = true := dok (nthB hb 185)
theorem q_a__law_least {K : PySem.W.Frag} (hb : (bsK K).all id = true) : PySem.W.nsIn K mainGlobals "_law_least" = some (some (.ref (A_f__law_least K))) := isR_ok (nthB hb 186)
theorem q_d__law_least {K : PySem.W.Frag} (hb : (bsK K).all id = true) : PySem.W.codeIn K (fdK K (A_f__law_least K)).code "_law_least" = true := dok (nthB hb 187)
theorem q_k__law_least {K : PySem.W.Frag} (hb : (bsK K).all id = true) : PySem.W.keepIn K (.ref (A_f__law_least K)) = true := dok (nthB hb 188)
theorem q_a__law_is_integer {K : PySem.W.Frag} (hb : (bsK K).all id = true) : PySem.W.nsIn K mainGlobals "_law_is_integer" = some (some (.ref (A_f__law_is_integer K))) := isR_ok (nthB hb 189)
theorem q_d__law_is_integer {K : PySem.W.Frag} (hb : (bsK K).all id = true) : PySem.W.codeIn K (fdK K (A_f__law_is_integer K)).code "_law_is_integer" = true := dok (nthB hb 190)
theorem q_k__law_is_integer {K : PySem.W.Frag} (hb : (bsK K).all id = true) : PySem.W.keepIn K (.ref (A_f__law_is_integer K)) = true := dok (nthB hb 191)
theorem q_a_is_rest {K : PySem.W.Frag} (hb : (bsK K).all id = true) : PySem.W.nsIn K mainGlobals "is_rest" = some (some (.ref (A_f_is_rest K))) := isR_ok (nthB hb 192)
theorem q_d_is_rest {K : PySem.W.Frag} (hb : (bsK K).all id = true) : PySem.W.codeIn K (fdK K (A_f_is_rest K)).code "is_rest" = true := dok (nthB hb 193)
theorem q_k_is_rest {K : PySem.W.Frag} (hb : (bsK K).all id = true) : PySem.W.keepIn K (.ref (A_f_is_rest K)) = true := dok (nthB hb 194)
theorem q_a_rest_sum {K : PySem.W.Frag} (hb : (bsK K).all id = true) : PySem.W.nsIn K mainGlobals "rest_sum" = some (some (.ref (A_f_rest_sum K))) := isR_ok (nthB hb 195)
theorem q_d_rest_sum {K : PySem.W.Frag} (hb : (bsK K).all id = true) : PySem.W.codeIn K (fdK K (A_f_rest_sum K)).code "rest_sum" = true := dok (nthB hb 196)
theorem q_k_rest_sum {K : PySem.W.Frag} (hb : (bsK K).all id = true) : PySem.W.keepIn K (.ref (A_f_rest_sum K)) = true := dok (nthB hb 197)
theorem q_a__law_are_weights {K : PySem.W.Frag} (hb : (bsK K).all id = true) : PySem.W.nsIn K mainGlobals "_law_are_weights" = some (some (.ref (A_f__law_are_weights K))) := isR_ok (nthB hb 198)
theorem q_d__law_are_weights {K : PySem.W.Frag} (hb : (bsK K).all id = true) : PySem.W.codeIn K (fdK K (A_f__law_are_weights K)).code "_law_are_weights" = true := dok (nthB hb 199)
theorem q_k__law_are_weights {K : PySem.W.Frag} (hb : (bsK K).all id = true) : PySem.W.keepIn K (.ref (A_f__law_are_weights K)) = true := dok (nthB hb 200)
theorem q_a__law_weighed {K : PySem.W.Frag} (hb : (bsK K).all id = true) : PySem.W.nsIn K mainGlobals "_law_weighed" = some (some (.ref (A_f__law_weighed K))) := isR_ok (nthB hb 201)
theorem q_d__law_weighed {K : PySem.W.Frag} (hb : (bsK K).all id = true) : PySem.W.codeIn K (fdK K (A_f__law_weighed K)).code "_law_weighed" = true := dok (nthB hb 202)
theorem q_k__law_weighed {K : PySem.W.Frag} (hb : (bsK K).all id = true) : PySem.W.keepIn K (.ref (A_f__law_weighed K)) = true := dok (nthB hb 203)
theorem q_a__law_are_bars {K : PySem.W.Frag} (hb : (bsK K).all id = true) : PySem.W.nsIn K mainGlobals "_law_are_bars" = some (some (.ref (A_f__law_are_bars K))) := isR_ok (nthB hb 204)
theorem q_d__law_are_bars {K : PySem.W.Frag} (hb : (bsK K).all id = true) : PySem.W.codeIn K (fdK K (A_f__law_are_bars K)).code "_law_are_bars" = true := dok (nthB hb 205)
theorem q_k__law_are_bars {K : PySem.W.Frag} (hb : (bsK K).all id = true) : PySem.W.keepIn K (.ref (A_f__law_are_bars K)) = true := dok (nthB hb 206)
theorem q_a__law_over {K : PySem.W.Frag} (hb : (bsK K).all id = true) : PySem.W.nsIn K mainGlobals "_law_over" = some (some (.ref (A_f__law_over K))) := isR_ok (nthB hb 207)
theorem q_d__law_over {K : PySem.W.Frag} (hb : (bsK K).all id = true) : PySem.W.codeIn K (fdK K (A_f__law_over K)).code "_law_over" = true := dok (nthB hb 208)
theorem q_k__law_over {K : PySem.W.Frag} (hb : (bsK K).all id = true) : PySem.W.keepIn K (.ref (A_f__law_over K)) = true := dok (nthB hb 209)
theorem q_a__law_closing {K : PySem.W.Frag} (hb : (bsK K).all id = true) : PySem.W.nsIn K mainGlobals "_law_closing" = some (some (.ref (A_f__law_closing K))) := isR_ok (nthB hb 210)
theorem q_d__law_closing {K : PySem.W.Frag} (hb : (bsK K).all id = true) : PySem.W.codeIn K (fdK K (A_f__law_closing K)).code "_law_closing" = true := dok (nthB hb 211)
theorem q_k__law_closing {K : PySem.W.Frag} (hb : (bsK K).all id = true) : PySem.W.keepIn K (.ref (A_f__law_closing K)) = true := dok (nthB hb 212)
theorem q_a__law_indexes {K : PySem.W.Frag} (hb : (bsK K).all id = true) : PySem.W.nsIn K mainGlobals "_law_indexes" = some (some (.ref (A_f__law_indexes K))) := isR_ok (nthB hb 213)
theorem q_d__law_indexes {K : PySem.W.Frag} (hb : (bsK K).all id = true) : PySem.W.codeIn K (fdK K (A_f__law_indexes K)).code "_law_indexes" = true := dok (nthB hb 214)
theorem q_k__law_indexes {K : PySem.W.Frag} (hb : (bsK K).all id = true) : PySem.W.keepIn K (.ref (A_f__law_indexes K)) = true := dok (nthB hb 215)
theorem q_a__law_as_weights {K : PySem.W.Frag} (hb : (bsK K).all id = true) : PySem.W.nsIn K mainGlobals "_law_as_weights" = some (some (.ref (A_f__law_as_weights K))) := isR_ok (nthB hb 216)
theorem q_d__law_as_weights {K : PySem.W.Frag} (hb : (bsK K).all id = true) : PySem.W.codeIn K (fdK K (A_f__law_as_weights K)).code "_law_as_weights" = true := dok (nthB hb 217)
theorem q_k__law_as_weights {K : PySem.W.Frag} (hb : (bsK K).all id = true) : PySem.W.keepIn K (.ref (A_f__law_as_weights K)) = true := dok (nthB hb 218)
theorem q_a__law_item_spoiled {K : PySem.W.Frag} (hb : (bsK K).all id = true) : PySem.W.nsIn K mainGlobals "_law_item_spoiled" = some (some (.ref (A_f__law_item_spoiled K))) := isR_ok (nthB hb 219)
theorem q_d__law_item_spoiled {K : PySem.W.Frag} (hb : (bsK K).all id = true) : PySem.W.codeIn K (fdK K (A_f__law_item_spoiled K)).code "_law_item_spoiled" = true := dok (nthB hb 220)
theorem q_k__law_item_spoiled {K : PySem.W.Frag} (hb : (bsK K).all id = true) : PySem.W.keepIn K (.ref (A_f__law_item_spoiled K)) = true := dok (nthB hb 221)
theorem q_a__law_spoiled {K : PySem.W.Frag} (hb : (bsK K).all id = true) : PySem.W.nsIn K mainGlobals "_law_spoiled" = some (some (.ref (A_f__law_spoiled K))) := isR_ok (nthB hb 222)
theorem q_d__law_spoiled {K : PySem.W.Frag} (hb : (bsK K).all id = true) : PySem.W.codeIn K (fdK K (A_f__law_spoiled K)).code "_law_spoiled" = true := dok (nthB hb 223)
theorem q_k__law_spoiled {K : PySem.W.Frag} (hb : (bsK K).all id = true) : PySem.W.keepIn K (.ref (A_f__law_spoiled K)) = true := dok (nthB hb 224)
theorem q_a_check_bound {K : PySem.W.Frag} (hb : (bsK K).all id = true) : PySem.W.nsIn K mainGlobals "check_bound" = some (some (.ref (A_f_check_bound K))) := isR_ok (nthB hb 225)
theorem q_d_check_bound {K : PySem.W.Frag} (hb : (bsK K).all id = true) : PySem.W.codeIn K (fdK K (A_f_check_bound K)).code "check_bound" = true := dok (nthB hb 226)
theorem q_k_check_bound {K : PySem.W.Frag} (hb : (bsK K).all id = true) : PySem.W.keepIn K (.ref (A_f_check_bound K)) = true := dok (nthB hb 227)
theorem q_a_is_press {K : PySem.W.Frag} (hb : (bsK K).all id = true) : PySem.W.nsIn K mainGlobals "is_press" = some (some (.ref (A_f_is_press K))) := isR_ok (nthB hb 228)
theorem q_d_is_press {K : PySem.W.Frag} (hb : (bsK K).all id = true) : PySem.W.codeIn K (fdK K (A_f_is_press K)).code "is_press" = true := dok (nthB hb 229)
theorem q_k_is_press {K : PySem.W.Frag} (hb : (bsK K).all id = true) : PySem.W.keepIn K (.ref (A_f_is_press K)) = true := dok (nthB hb 230)
theorem q_a__law_are_press {K : PySem.W.Frag} (hb : (bsK K).all id = true) : PySem.W.nsIn K mainGlobals "_law_are_press" = some (some (.ref (A_f__law_are_press K))) := isR_ok (nthB hb 231)
theorem q_d__law_are_press {K : PySem.W.Frag} (hb : (bsK K).all id = true) : PySem.W.codeIn K (fdK K (A_f__law_are_press K)).code "_law_are_press" = true := dok (nthB hb 232)
theorem q_k__law_are_press {K : PySem.W.Frag} (hb : (bsK K).all id = true) : PySem.W.keepIn K (.ref (A_f__law_are_press K)) = true := dok (nthB hb 233)
theorem q_a__law_some_press {K : PySem.W.Frag} (hb : (bsK K).all id = true) : PySem.W.nsIn K mainGlobals "_law_some_press" = some (some (.ref (A_f__law_some_press K))) := isR_ok (nthB hb 234)
theorem q_d__law_some_press {K : PySem.W.Frag} (hb : (bsK K).all id = true) : PySem.W.codeIn K (fdK K (A_f__law_some_press K)).code "_law_some_press" = true := dok (nthB hb 235)
theorem q_k__law_some_press {K : PySem.W.Frag} (hb : (bsK K).all id = true) : PySem.W.keepIn K (.ref (A_f__law_some_press K)) = true := dok (nthB hb 236)
theorem q_a__law_bound_near {K : PySem.W.Frag} (hb : (bsK K).all id = true) : PySem.W.nsIn K mainGlobals "_law_bound_near" = some (some (.ref (A_f__law_bound_near K))) := isR_ok (nthB hb 237)
theorem q_d__law_bound_near {K : PySem.W.Frag} (hb : (bsK K).all id = true) : PySem.W.codeIn K (fdK K (A_f__law_bound_near K)).code "_law_bound_near" = true := dok (nthB hb 238)
theorem q_k__law_bound_near {K : PySem.W.Frag} (hb : (bsK K).all id = true) : PySem.W.keepIn K (.ref (A_f__law_bound_near K)) = true := dok (nthB hb 239)
theorem q_a__law_press_spoiled {K : PySem.W.Frag} (hb : (bsK K).all id = true) : PySem.W.nsIn K mainGlobals "_law_press_spoiled" = some (some (.ref (A_f__law_press_spoiled K))) := isR_ok (nthB hb 240)
theorem q_d__law_press_spoiled {K : PySem.W.Frag} (hb : (bsK K).all id = true) : PySem.W.codeIn K (fdK K (A_f__law_press_spoiled K)).code "_law_press_spoiled" = true := dok (nthB hb 241)
theorem q_k__law_press_spoiled {K : PySem.W.Frag} (hb : (bsK K).all id = true) : PySem.W.keepIn K (.ref (A_f__law_press_spoiled K)) = true := dok (nthB hb 242)
theorem q_a_law {K : PySem.W.Frag} (hb : (bsK K).all id = true) : PySem.W.nsIn K mainGlobals "law" = some (some (.ref (A_f_law K))) := isR_ok (nthB hb 243)
theorem q_d_law {K : PySem.W.Frag} (hb : (bsK K).all id = true) : PySem.W.codeIn K (fdK K (A_f_law K)).code "law" = true := dok (nthB hb 244)
theorem q_k_law {K : PySem.W.Frag} (hb : (bsK K).all id = true) : PySem.W.keepIn K (.ref (A_f_law K)) = true := dok (nthB hb 245)
end L2.My
open PySem PySem.W PySem.Calls PyProof.Rows in
set_option maxRecDepth 100000 in
set_option maxHeartbeats 0 in
theorem PySem.Challenge.cw_threetiles_k25_presses_judged_holds : PySem.Challenge.rw_threetiles_k25_presses_judged.Holds := by
  w_on; o_law
  refine HandSHeadRun.head_imp (r := PySem.W.OpenLaw.row PySem.Challenge.rw_threetiles_k25_presses_judged) (q := view (PySem.W.OpenLaw.row PySem.Challenge.rw_threetiles_k25_presses_judged).prog [57]) (H := L2.My.hookF L2.My.nsK L2.My.bsK L2.My.fsK L2.My.wsK) (ob := L2.My.obF L2.My.nsK L2.My.bsK L2.My.fsK) (M := 20000) (loose := L2.My.namesK) (d := HandSHeadRun.topDef (PySem.W.OpenLaw.row PySem.Challenge.rw_threetiles_k25_presses_judged).prog 57) (kwd := []) L2.My.obF_eq
    L2.My.runH (by kernel_rfl) (by kernel_rfl) (by kernel_rfl) (by rfl) (by first | assumption | decide +kernel) (by decide +kernel) ⟨rfl, rfl, rfl, rfl, rfl, by decide +kernel⟩ ?hw ?hc
  case hw => w_witness2
  case hc =>
    refine L2.My.walk_ofEW (l := PySem.Challenge.rw_threetiles_k25_presses_judged) (n := 63) (k := 10) (x := "script") (CX := fun w => L2.CX (PySem.Challenge.rw_threetiles_k25_presses_judged).prog w) rfl (by decide) (by kernel_rfl) ⟨rfl, by decide, by decide⟩ ?F (fun _ _ _ _ _ z => L2.My.cx_no z)
    intro w mg fa h Y G hmg0
    obtain ⟨K, KX, hb, hf⟩ := Y
    have hmg : mg ("law" : PySem.Str) = some (.ref fa) := by
      have e : (HandSHeadRun.topDef (PySem.W.OpenLaw.row PySem.Challenge.rw_threetiles_k25_presses_judged).prog 57).name = ("law" : PySem.Str) := by kernel_rfl
      rw [← e]
      exact hmg0
    obtain ⟨_, e_L_BadNumber⟩ := L2.My.excB_ok (L2.My.nthB hb 38)
    obtain ⟨_, e_L_BadBounds⟩ := L2.My.excB_ok (L2.My.nthB hb 49)
    obtain ⟨fd, h1, h2⟩ := L2.My.all_mk (P := (PySem.Challenge.rw_threetiles_k25_presses_judged).prog) (w := w) (c_VECTORS := L2.My.A_c_VECTORS K) (c_FloorError := L2.My.A_c_FloorError K) (c_BadNumber := L2.My.A_c_BadNumber K) (c_BadBounds := L2.My.A_c_BadBounds K) (c_Root := L2.My.A_c_Root K) (gAX := L2.My.A_gAX K) (gSX := L2.My.A_gSX K) (gMX := L2.My.A_gMX K) (f_is_integral := L2.My.A_f_is_integral K) (f_BadBounds_init := L2.My.A_f_BadBounds_init K) (f_BadNumber_init := L2.My.A_f_BadNumber_init K) (f_Root_init := L2.My.A_f_Root_init K) (f_Root_eq := L2.My.A_f_Root_eq K) (f_Root_neg := L2.My.A_f_Root_neg K) (f_is_number := L2.My.A_f_is_number K) (f_as_root := L2.My.A_f_as_root K) (f_surd_sign := L2.My.A_f_surd_sign K) (f_Root_add := L2.My.A_f_Root_add K) (f_Root_sub := L2.My.A_f_Root_sub K) (f_Root_mul := L2.My.A_f_Root_mul K) (f_Root_radd := L2.My.A_f_Root_radd K) (f_Root_rmul := L2.My.A_f_Root_rmul K) (f_Root_rsub := L2.My.A_f_Root_rsub K) (f_Root_less := L2.My.A_f_Root_less K) (f_Root_sign := L2.My.A_f_Root_sign K) (f_is_bound := L2.My.A_f_is_bound K) (f_check_bounds := L2.My.A_f_check_bounds K) (f__law_begin := L2.My.A_f__law_begin K) (f__law_draw := L2.My.A_f__law_draw K) (f__law_great := L2.My.A_f__law_great K) (f__law_number := L2.My.A_f__law_number K) (f__law_plus := L2.My.A_f__law_plus K) (f__law_scaled := L2.My.A_f__law_scaled K) (f__law_sign := L2.My.A_f__law_sign K) (f__law_compare := L2.My.A_f__law_compare K) (f__law_hand := L2.My.A_f__law_hand K) (f__law_handed := L2.My.A_f__law_handed K) (f__law_vector := L2.My.A_f__law_vector K) (f__law_along := L2.My.A_f__law_along K) (f__law_lets := L2.My.A_f__law_lets K) (f__law_in_all := L2.My.A_f__law_in_all K) (f__law_rows := L2.My.A_f__law_rows K) (f__law_width := L2.My.A_f__law_width K) (f__law_rows_round := L2.My.A_f__law_rows_round K) (f__law_cross := L2.My.A_f__law_cross K) (f__law_least := L2.My.A_f__law_least K) (f__law_is_integer := L2.My.A_f__law_is_integer K) (f_is_rest := L2.My.A_f_is_rest K) (f_rest_sum := L2.My.A_f_rest_sum K) (f__law_are_weights := L2.My.A_f__law_are_weights K) (f__law_weighed := L2.My.A_f__law_weighed K) (f__law_are_bars := L2.My.A_f__law_are_bars K) (f__law_over := L2.My.A_f__law_over K) (f__law_closing := L2.My.A_f__law_closing K) (f__law_indexes := L2.My.A_f__law_indexes K) (f__law_as_weights := L2.My.A_f__law_as_weights K) (f__law_item_spoiled := L2.My.A_f__law_item_spoiled K) (f__law_spoiled := L2.My.A_f__law_spoiled K) (f_check_bound := L2.My.A_f_check_bound K) (f_is_press := L2.My.A_f_is_press K) (f__law_are_press := L2.My.A_f__law_are_press K) (f__law_some_press := L2.My.A_f__law_some_press K) (f__law_bound_near := L2.My.A_f__law_bound_near K) (f__law_press_spoiled := L2.My.A_f__law_press_spoiled K) (f_law := L2.My.A_f_law K) KX G hmg (L2.My.q_gi_MOST_BOUNDS hb) (L2.My.q_r_VECTORS hb) (L2.My.q_kd_VECTORS hb) (L2.My.q_r_FloorError hb) (L2.My.q_r_BadNumber hb) (L2.My.q_r_BadBounds hb) (L2.My.q_r_Root hb) (L2.My.q_r_gcd hb) (L2.My.q_r_isinstance hb) (L2.My.q_r_len hb) (L2.My.q_r_tuple hb) (L2.My.q_r_enumerate hb) (L2.My.q_r_list hb) (L2.My.q_r_int hb) (L2.My.q_r_range hb) (L2.My.q_r_bool hb) (L2.My.q_r_sorted hb) (L2.My.q_r_str hb) (L2.My.q_r_max hb) (L2.My.q_r_abs hb) (L2.My.q_r_min hb) (L2.My.q_r_pg hb) (L2.My.q_r_hd hb) (L2.My.q_r_po hb) (L2.My.q_r_sa hb) (L2.My.q_r_ca hb) (L2.My.q_r_hm hb) (L2.My.q_r_ic hb) (L2.My.q_r_tc hb) (L2.My.q_r_s1 hb) (L2.My.q_r_s2 hb) (L2.My.q_r_nt hb) (L2.My.q_r_nr hb) (L2.My.q_r_nb hb) (L2.My.q_r_sf hb) (L2.My.q_r_ra hb) (L2.My.q_r_rs hb) (L2.My.q_r_rm hb) e_L_BadNumber (L2.My.q_e_sa_BadNumber hb) (L2.My.q_e_e_BadNumber hb) (L2.My.q_e_t_BadNumber hb) (L2.My.q_e_k_BadNumber hb) (L2.My.q_e_n_BadNumber hb) (L2.My.q_e_ga_BadNumber hb) (L2.My.q_e_gg_BadNumber hb) (L2.My.q_e_hd_BadNumber hb) (L2.My.q_e_ic_BadNumber hb) (L2.My.q_e_s_BadNumber hb) e_L_BadBounds (L2.My.q_e_sa_BadBounds hb) (L2.My.q_e_e_BadBounds hb) (L2.My.q_e_t_BadBounds hb) (L2.My.q_e_k_BadBounds hb) (L2.My.q_e_n_BadBounds hb) (L2.My.q_e_ga_BadBounds hb) (L2.My.q_e_gg_BadBounds hb) (L2.My.q_e_hd_BadBounds hb) (L2.My.q_e_ic_BadBounds hb) (L2.My.q_e_s_BadBounds hb) (L2.My.q_a_is_integral hb) (L2.My.fn_l (K := K) (f := L2.My.A_f_is_integral K) (n := "is_integral") (q := "is_integral") (st := L2.My.s_is_integral) (L2.My.nthF hf 0)) (L2.My.q_d_is_integral hb) (L2.My.q_k_is_integral hb) (L2.My.q_a_BadBounds_init hb) (L2.My.q_t_BadBounds_init hb) (L2.My.fn_l (K := K) (f := L2.My.A_f_BadBounds_init K) (n := "__init__") (q := "BadBounds.__init__") (st := L2.My.s_BadBounds_init) (L2.My.nthF hf 1)) (L2.My.q_d_BadBounds_init hb) (L2.My.q_k_BadBounds_init hb) (L2.My.q_a_BadNumber_init hb) (L2.My.q_t_BadNumber_init hb) (L2.My.fn_l (K := K) (f := L2.My.A_f_BadNumber_init K) (n := "__init__") (q := "BadNumber.__init__") (st := L2.My.s_BadNumber_init) (L2.My.nthF hf 2)) (L2.My.q_d_BadNumber_init hb) (L2.My.q_k_BadNumber_init hb) (L2.My.q_a_Root_init hb) (L2.My.q_i_Root_init hb) (L2.My.q_mk_Root_init hb) (L2.My.q_kc_Root_init hb) (L2.My.fn_l (K := K) (f := L2.My.A_f_Root_init K) (n := "__init__") (q := "Root.__init__") (st := L2.My.s_Root_init) (L2.My.nthF hf 3)) (L2.My.q_d_Root_init hb) (L2.My.q_k_Root_init hb) (L2.My.q_a_Root_eq hb) (L2.My.q_i_Root_eq hb) (L2.My.fn_l (K := K) (f := L2.My.A_f_Root_eq K) (n := "__eq__") (q := "Root.__eq__") (st := L2.My.s_Root_eq) (L2.My.nthF hf 4)) (L2.My.q_d_Root_eq hb) (L2.My.q_k_Root_eq hb) (L2.My.q_a_Root_neg hb) (L2.My.q_i_Root_neg hb) (L2.My.fn_l (K := K) (f := L2.My.A_f_Root_neg K) (n := "__neg__") (q := "Root.__neg__") (st := L2.My.s_Root_neg) (L2.My.nthF hf 5)) (L2.My.q_d_Root_neg hb) (L2.My.q_k_Root_neg hb) (L2.My.q_a_is_number hb) (L2.My.fn_l (K := K) (f := L2.My.A_f_is_number K) (n := "is_number") (q := "is_number") (st := L2.My.s_is_number) (L2.My.nthF hf 6)) (L2.My.q_d_is_number hb) (L2.My.q_k_is_number hb) (L2.My.q_a_as_root hb) (L2.My.fn_l (K := K) (f := L2.My.A_f_as_root K) (n := "as_root") (q := "as_root") (st := L2.My.s_as_root) (L2.My.nthF hf 7)) (L2.My.q_d_as_root hb) (L2.My.q_k_as_root hb) (L2.My.q_a_surd_sign hb) (L2.My.fn_l (K := K) (f := L2.My.A_f_surd_sign K) (n := "surd_sign") (q := "surd_sign") (st := L2.My.s_surd_sign) (L2.My.nthF hf 8)) (L2.My.q_d_surd_sign hb) (L2.My.q_k_surd_sign hb) (L2.My.q_a_Root_add hb) (L2.My.q_i_Root_add hb) (L2.My.fn_l (K := K) (f := L2.My.A_f_Root_add K) (n := "__add__") (q := "Root.__add__") (st := L2.My.s_Root_add) (L2.My.nthF hf 9)) (L2.My.q_d_Root_add hb) (L2.My.q_k_Root_add hb) (L2.My.q_a_Root_sub hb) (L2.My.q_i_Root_sub hb) (L2.My.fn_l (K := K) (f := L2.My.A_f_Root_sub K) (n := "__sub__") (q := "Root.__sub__") (st := L2.My.s_Root_sub) (L2.My.nthF hf 10)) (L2.My.q_d_Root_sub hb) (L2.My.q_k_Root_sub hb) (L2.My.q_a_Root_mul hb) (L2.My.q_i_Root_mul hb) (L2.My.fn_l (K := K) (f := L2.My.A_f_Root_mul K) (n := "__mul__") (q := "Root.__mul__") (st := L2.My.s_Root_mul) (L2.My.nthF hf 11)) (L2.My.q_d_Root_mul hb) (L2.My.q_k_Root_mul hb) (L2.My.q_a_Root_radd hb) (L2.My.q_i_Root_radd hb) (L2.My.fn_l (K := K) (f := L2.My.A_f_Root_radd K) (n := "__radd__") (q := "Root.__radd__") (st := L2.My.s_Root_radd) (L2.My.nthF hf 12)) (L2.My.q_d_Root_radd hb) (L2.My.q_k_Root_radd hb) (L2.My.q_a_Root_rmul hb) (L2.My.q_i_Root_rmul hb) (L2.My.fn_l (K := K) (f := L2.My.A_f_Root_rmul K) (n := "__rmul__") (q := "Root.__rmul__") (st := L2.My.s_Root_rmul) (L2.My.nthF hf 13)) (L2.My.q_d_Root_rmul hb) (L2.My.q_k_Root_rmul hb) (L2.My.q_a_Root_rsub hb) (L2.My.q_i_Root_rsub hb) (L2.My.fn_l (K := K) (f := L2.My.A_f_Root_rsub K) (n := "__rsub__") (q := "Root.__rsub__") (st := L2.My.s_Root_rsub) (L2.My.nthF hf 14)) (L2.My.q_d_Root_rsub hb) (L2.My.q_k_Root_rsub hb) (L2.My.q_a_Root_less hb) (L2.My.q_i_Root_less hb) (L2.My.fn_l (K := K) (f := L2.My.A_f_Root_less K) (n := "less") (q := "Root.less") (st := L2.My.s_Root_less) (L2.My.nthF hf 15)) (L2.My.q_d_Root_less hb) (L2.My.q_k_Root_less hb) (L2.My.q_a_Root_sign hb) (L2.My.q_i_Root_sign hb) (L2.My.fn_l (K := K) (f := L2.My.A_f_Root_sign K) (n := "sign") (q := "Root.sign") (st := L2.My.s_Root_sign) (L2.My.nthF hf 16)) (L2.My.q_d_Root_sign hb) (L2.My.q_k_Root_sign hb) (L2.My.q_a_is_bound hb) (L2.My.fn_l (K := K) (f := L2.My.A_f_is_bound K) (n := "is_bound") (q := "is_bound") (st := L2.My.s_is_bound) (L2.My.nthF hf 17)) (L2.My.q_d_is_bound hb) (L2.My.q_k_is_bound hb) (L2.My.q_a_check_bounds hb) (L2.My.fn_l (K := K) (f := L2.My.A_f_check_bounds K) (n := "check_bounds") (q := "check_bounds") (st := L2.My.s_check_bounds) (L2.My.nthF hf 18)) (L2.My.q_d_check_bounds hb) (L2.My.q_k_check_bounds hb) (L2.My.q_a__law_begin hb) (L2.My.fn_l (K := K) (f := L2.My.A_f__law_begin K) (n := "_law_begin") (q := "_law_begin") (st := L2.My.s__law_begin) (L2.My.nthF hf 19)) (L2.My.q_d__law_begin hb) (L2.My.q_k__law_begin hb) (L2.My.q_a__law_draw hb) (L2.My.fn_l (K := K) (f := L2.My.A_f__law_draw K) (n := "_law_draw") (q := "_law_draw") (st := L2.My.s__law_draw) (L2.My.nthF hf 20)) (L2.My.q_d__law_draw hb) (L2.My.q_k__law_draw hb) (L2.My.q_a__law_great hb) (L2.My.fn_l (K := K) (f := L2.My.A_f__law_great K) (n := "_law_great") (q := "_law_great") (st := L2.My.s__law_great) (L2.My.nthF hf 21)) (L2.My.q_d__law_great hb) (L2.My.q_k__law_great hb) (L2.My.q_a__law_number hb) (L2.My.fn_l (K := K) (f := L2.My.A_f__law_number K) (n := "_law_number") (q := "_law_number") (st := L2.My.s__law_number) (L2.My.nthF hf 22)) (L2.My.q_d__law_number hb) (L2.My.q_k__law_number hb) (L2.My.q_a__law_plus hb) (L2.My.fn_l (K := K) (f := L2.My.A_f__law_plus K) (n := "_law_plus") (q := "_law_plus") (st := L2.My.s__law_plus) (L2.My.nthF hf 23)) (L2.My.q_d__law_plus hb) (L2.My.q_k__law_plus hb) (L2.My.q_a__law_scaled hb) (L2.My.fn_l (K := K) (f := L2.My.A_f__law_scaled K) (n := "_law_scaled") (q := "_law_scaled") (st := L2.My.s__law_scaled) (L2.My.nthF hf 24)) (L2.My.q_d__law_scaled hb) (L2.My.q_k__law_scaled hb) (L2.My.q_a__law_sign hb) (L2.My.fn_l (K := K) (f := L2.My.A_f__law_sign K) (n := "_law_sign") (q := "_law_sign") (st := L2.My.s__law_sign) (L2.My.nthF hf 25)) (L2.My.q_d__law_sign hb) (L2.My.q_k__law_sign hb) (L2.My.q_a__law_compare hb) (L2.My.fn_l (K := K) (f := L2.My.A_f__law_compare K) (n := "_law_compare") (q := "_law_compare") (st := L2.My.s__law_compare) (L2.My.nthF hf 26)) (L2.My.q_d__law_compare hb) (L2.My.q_k__law_compare hb) (L2.My.q_a__law_hand hb) (L2.My.fn_l (K := K) (f := L2.My.A_f__law_hand K) (n := "_law_hand") (q := "_law_hand") (st := L2.My.s__law_hand) (L2.My.nthF hf 27)) (L2.My.q_d__law_hand hb) (L2.My.q_k__law_hand hb) (L2.My.q_a__law_handed hb) (L2.My.fn_l (K := K) (f := L2.My.A_f__law_handed K) (n := "_law_handed") (q := "_law_handed") (st := L2.My.s__law_handed) (L2.My.nthF hf 28)) (L2.My.q_d__law_handed hb) (L2.My.q_k__law_handed hb) (L2.My.q_a__law_vector hb) (L2.My.fn_l (K := K) (f := L2.My.A_f__law_vector K) (n := "_law_vector") (q := "_law_vector") (st := L2.My.s__law_vector) (L2.My.nthF hf 29)) (L2.My.q_d__law_vector hb) (L2.My.q_k__law_vector hb) (L2.My.q_a__law_along hb) (L2.My.fn_l (K := K) (f := L2.My.A_f__law_along K) (n := "_law_along") (q := "_law_along") (st := L2.My.s__law_along) (L2.My.nthF hf 30)) (L2.My.q_d__law_along hb) (L2.My.q_k__law_along hb) (L2.My.q_a__law_lets hb) (L2.My.fn_l (K := K) (f := L2.My.A_f__law_lets K) (n := "_law_lets") (q := "_law_lets") (st := L2.My.s__law_lets) (L2.My.nthF hf 31)) (L2.My.q_d__law_lets hb) (L2.My.q_k__law_lets hb) (L2.My.q_a__law_in_all hb) (L2.My.fn_l (K := K) (f := L2.My.A_f__law_in_all K) (n := "_law_in_all") (q := "_law_in_all") (st := L2.My.s__law_in_all) (L2.My.nthF hf 32)) (L2.My.q_d__law_in_all hb) (L2.My.q_k__law_in_all hb) (L2.My.q_a__law_rows hb) (L2.My.fn_l (K := K) (f := L2.My.A_f__law_rows K) (n := "_law_rows") (q := "_law_rows") (st := L2.My.s__law_rows) (L2.My.nthF hf 33)) (L2.My.q_d__law_rows hb) (L2.My.q_k__law_rows hb) (L2.My.q_a__law_width hb) (L2.My.fn_l (K := K) (f := L2.My.A_f__law_width K) (n := "_law_width") (q := "_law_width") (st := L2.My.s__law_width) (L2.My.nthF hf 34)) (L2.My.q_d__law_width hb) (L2.My.q_k__law_width hb) (L2.My.q_a__law_rows_round hb) (L2.My.fn_l (K := K) (f := L2.My.A_f__law_rows_round K) (n := "_law_rows_round") (q := "_law_rows_round") (st := L2.My.s__law_rows_round) (L2.My.nthF hf 35)) (L2.My.q_d__law_rows_round hb) (L2.My.q_k__law_rows_round hb) (L2.My.q_a__law_cross hb) (L2.My.fn_l (K := K) (f := L2.My.A_f__law_cross K) (n := "_law_cross") (q := "_law_cross") (st := L2.My.s__law_cross) (L2.My.nthF hf 36)) (L2.My.q_d__law_cross hb) (L2.My.q_k__law_cross hb) (L2.My.q_a__law_least hb) (L2.My.fn_l (K := K) (f := L2.My.A_f__law_least K) (n := "_law_least") (q := "_law_least") (st := L2.My.s__law_least) (L2.My.nthF hf 37)) (L2.My.q_d__law_least hb) (L2.My.q_k__law_least hb) (L2.My.q_a__law_is_integer hb) (L2.My.fn_l (K := K) (f := L2.My.A_f__law_is_integer K) (n := "_law_is_integer") (q := "_law_is_integer") (st := L2.My.s__law_is_integer) (L2.My.nthF hf 38)) (L2.My.q_d__law_is_integer hb) (L2.My.q_k__law_is_integer hb) (L2.My.q_a_is_rest hb) (L2.My.fn_l (K := K) (f := L2.My.A_f_is_rest K) (n := "is_rest") (q := "is_rest") (st := L2.My.s_is_rest) (L2.My.nthF hf 39)) (L2.My.q_d_is_rest hb) (L2.My.q_k_is_rest hb) (L2.My.q_a_rest_sum hb) (L2.My.fn_l (K := K) (f := L2.My.A_f_rest_sum K) (n := "rest_sum") (q := "rest_sum") (st := L2.My.s_rest_sum) (L2.My.nthF hf 40)) (L2.My.q_d_rest_sum hb) (L2.My.q_k_rest_sum hb) (L2.My.q_a__law_are_weights hb) (L2.My.fn_l (K := K) (f := L2.My.A_f__law_are_weights K) (n := "_law_are_weights") (q := "_law_are_weights") (st := L2.My.s__law_are_weights) (L2.My.nthF hf 41)) (L2.My.q_d__law_are_weights hb) (L2.My.q_k__law_are_weights hb) (L2.My.q_a__law_weighed hb) (L2.My.fn_l (K := K) (f := L2.My.A_f__law_weighed K) (n := "_law_weighed") (q := "_law_weighed") (st := L2.My.s__law_weighed) (L2.My.nthF hf 42)) (L2.My.q_d__law_weighed hb) (L2.My.q_k__law_weighed hb) (L2.My.q_a__law_are_bars hb) (L2.My.fn_l (K := K) (f := L2.My.A_f__law_are_bars K) (n := "_law_are_bars") (q := "_law_are_bars") (st := L2.My.s__law_are_bars) (L2.My.nthF hf 43)) (L2.My.q_d__law_are_bars hb) (L2.My.q_k__law_are_bars hb) (L2.My.q_a__law_over hb) (L2.My.fn_l (K := K) (f := L2.My.A_f__law_over K) (n := "_law_over") (q := "_law_over") (st := L2.My.s__law_over) (L2.My.nthF hf 44)) (L2.My.q_d__law_over hb) (L2.My.q_k__law_over hb) (L2.My.q_a__law_closing hb) (L2.My.fn_l (K := K) (f := L2.My.A_f__law_closing K) (n := "_law_closing") (q := "_law_closing") (st := L2.My.s__law_closing) (L2.My.nthF hf 45)) (L2.My.q_d__law_closing hb) (L2.My.q_k__law_closing hb) (L2.My.q_a__law_indexes hb) (L2.My.fn_l (K := K) (f := L2.My.A_f__law_indexes K) (n := "_law_indexes") (q := "_law_indexes") (st := L2.My.s__law_indexes) (L2.My.nthF hf 46)) (L2.My.q_d__law_indexes hb) (L2.My.q_k__law_indexes hb) (L2.My.q_a__law_as_weights hb) (L2.My.fn_l (K := K) (f := L2.My.A_f__law_as_weights K) (n := "_law_as_weights") (q := "_law_as_weights") (st := L2.My.s__law_as_weights) (L2.My.nthF hf 47)) (L2.My.q_d__law_as_weights hb) (L2.My.q_k__law_as_weights hb) (L2.My.q_a__law_item_spoiled hb) (L2.My.fn_l (K := K) (f := L2.My.A_f__law_item_spoiled K) (n := "_law_item_spoiled") (q := "_law_item_spoiled") (st := L2.My.s__law_item_spoiled) (L2.My.nthF hf 48)) (L2.My.q_d__law_item_spoiled hb) (L2.My.q_k__law_item_spoiled hb) (L2.My.q_a__law_spoiled hb) (L2.My.fn_l (K := K) (f := L2.My.A_f__law_spoiled K) (n := "_law_spoiled") (q := "_law_spoiled") (st := L2.My.s__law_spoiled) (L2.My.nthF hf 49)) (L2.My.q_d__law_spoiled hb) (L2.My.q_k__law_spoiled hb) (L2.My.q_a_check_bound hb) (L2.My.fn_l (K := K) (f := L2.My.A_f_check_bound K) (n := "check_bound") (q := "check_bound") (st := L2.My.s_check_bound) (L2.My.nthF hf 50)) (L2.My.q_d_check_bound hb) (L2.My.q_k_check_bound hb) (L2.My.q_a_is_press hb) (L2.My.fn_l (K := K) (f := L2.My.A_f_is_press K) (n := "is_press") (q := "is_press") (st := L2.My.s_is_press) (L2.My.nthF hf 51)) (L2.My.q_d_is_press hb) (L2.My.q_k_is_press hb) (L2.My.q_a__law_are_press hb) (L2.My.fn_l (K := K) (f := L2.My.A_f__law_are_press K) (n := "_law_are_press") (q := "_law_are_press") (st := L2.My.s__law_are_press) (L2.My.nthF hf 52)) (L2.My.q_d__law_are_press hb) (L2.My.q_k__law_are_press hb) (L2.My.q_a__law_some_press hb) (L2.My.fn_l (K := K) (f := L2.My.A_f__law_some_press K) (n := "_law_some_press") (q := "_law_some_press") (st := L2.My.s__law_some_press) (L2.My.nthF hf 53)) (L2.My.q_d__law_some_press hb) (L2.My.q_k__law_some_press hb) (L2.My.q_a__law_bound_near hb) (L2.My.fn_l (K := K) (f := L2.My.A_f__law_bound_near K) (n := "_law_bound_near") (q := "_law_bound_near") (st := L2.My.s__law_bound_near) (L2.My.nthF hf 54)) (L2.My.q_d__law_bound_near hb) (L2.My.q_k__law_bound_near hb) (L2.My.q_a__law_press_spoiled hb) (L2.My.fn_l (K := K) (f := L2.My.A_f__law_press_spoiled K) (n := "_law_press_spoiled") (q := "_law_press_spoiled") (st := L2.My.s__law_press_spoiled) (L2.My.nthF hf 55)) (L2.My.q_d__law_press_spoiled hb) (L2.My.q_k__law_press_spoiled hb) (L2.My.q_a_law hb) (L2.My.fn_l (K := K) (f := L2.My.A_f_law K) (n := "law") (q := "law") (st := L2.My.s_law) (L2.My.nthF hf 56)) (L2.My.q_d_law hb) (L2.My.q_k_law hb)
    exact ⟨K, fd, L2.My.spTop K, KX, h1, fun H a ns _ _ hS => ⟨a, ns, rfl, hS, fun _ => rfl⟩, h2⟩

