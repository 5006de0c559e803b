import PyProof.Rows.All
import Wide.All
import OpenK.AllK
import Wide.FinOn
import HandS.ForMost
import HandS.ForExc
import HandS.SlotsOwn
import KE.KMathG
import KE.KOpsOwn
import HandS.ExcInit
import HandS.ExcField
import HandS.ExcIs
import HandS.IsInst
import HandS.OwnEq
import HandS.Gcd
import HandS.Wide
import HandS.Codes
import HandS.Style
import HandS.DictComp
import HandS.Zip
import HandS.TupAny
import HandS.TryMany
import KE.KMathGC
import HandS.Deep
import KE.SortData
import KE.KDictDisplayH
import HandS.Strs
import PyProof.NeKinds
import KE.OsSortAny
import HandS.Head0
import HandS.Head1
import HandS.Head2
import HandS.Head3
import HandS.HeadEnd
import HandS.HeadHook1
import HandS.HeadHook2
import KE.GoesEnum
import KE.GoesMore
import HandS.ExcOwn
import PySem.Challenge.RW_threetiles_k63_floors_led_up_and_back
set_option Elab.async false
set_option linter.all false
set_option maxRecDepth 100000
set_option maxHeartbeats 4000000

/-! The head by one kernel run: what is asked of the heap that the top leaves is a list of Booleans and of the defs' texts. -/
namespace L2.My
open PySem PySem.Spec PyProof.Rows

def adr : Option (Option Value) → Addr
  | some (some (.ref a)) => a
  | _ => 0
def isR : Option (Option Value) → Bool
  | some (some (.ref _)) => true
  | _ => false
theorem isR_ok {x : Option (Option Value)} (h : isR x = true) : x = some (some (.ref (adr x))) := by
  unfold isR at h
  split at h
  · rfl
  · cases h

abbrev FnT : Type := Option (Str × Str × Arguments × FuncBody × Scope × Addr × List (Str × Addr) × Value × Addr)
def objAt (K : PySem.W.Frag) (f : Addr) : Obj := (K.lookup f).getD default
def fdOf : Obj → Option FuncData
  | ⟨_, _, .func fd, _⟩ => some fd
  | _ => none
def fdAt (K : PySem.W.Frag) (f : Addr) : Option FuncData := (K.lookup f).bind fdOf
def fnT (K : PySem.W.Frag) (f : Addr) : FnT :=
  (fdAt K f).map fun fd => (fd.name, fd.qualname, fd.params, fd.body, fd.scope, fd.globals, fd.closure, fd.defaults, fd.builtins)
def fnE (n q : Str) (st : Stmt) : FnT :=
  some (n, q, defArgs st, .stmts (defBody st), defScope st, mainGlobals, [], .none, builtinsNs)
abbrev fdK (K : PySem.W.Frag) (f : Addr) : FuncData := (fdAt K f).getD ⟨"", "", defArgs (.Pass ⟨0, 0, 0, 0⟩), .stmts [], defScope (.Pass ⟨0, 0, 0, 0⟩), 0, [], .none, .none, .none, .none, none, .none, .none, 0⟩
theorem fn_l {K : PySem.W.Frag} {f : Addr} {n q : Str} {st : Stmt} (e : fnT K f = fnE n q st) :
    K.lookup f = some ⟨(objAt K f).cls, (objAt K f).dict, .func (PySem.W.fnOf n q (defArgs st) (defBody st) (defScope st) .none (fdK K f).kwdefaults (fdK K f).doc (fdK K f).pyModule (fdK K f).annotations (fdK K f).code (fdK K f).closureTuple), (objAt K f).slots⟩ := by
  unfold fnT fnE at e
  unfold fdK fdAt objAt at *
  cases h : K.lookup f with
  | none => rw [h] at e; cases e
  | some o =>
    rw [h] at e
    obtain ⟨oc, od, dt, sl⟩ := o
    cases dt with
    | func fd =>
      obtain ⟨x1, x2, x3, x4, x5, x6, x7, x8, x9, x10, x11, x12, x13, x14, x15⟩ := fd
      cases e
      rfl
    | _ => cases e

/-- a module's integer -/
def isIntV (x : Option (Option Value)) (k : Int) : Bool := match x with
  | some (some (.int n _)) => decide (n = k)
  | _ => false
/-- the thing at u is this constant data -/
def kdB (K : PySem.W.Frag) : Nat → Value → PyData → Bool
  | _ + 1, .int i _, .int j => decide (i = j)
  | n + 1, .ref a, .tuple ds => match K.lookup a with
    | some ⟨.type t, _, .seq its _, _⟩ => decide (t = "tuple") && Nat.ble its.size 1000 && decide (its.toList.length = ds.length) && (its.toList.zip ds).all fun p => kdB K n p.1 p.2
    | _ => false
  | _, _, _ => false
structure CV where
  nm : Str
  q : Str
  N : Addr
  bs : List Value
  sn : List Str
  sub : List Value
  ab : Bool
  col : Option Bool
  dd : Option Addr
  m0 : Option Value
  m1 : Option Value
  m2 : Option Value
  m3 : Option Value
  m5 : Option Value

def excB (K : PySem.W.Frag) (C B : Addr) (ms : List Value) (nw : String) : Bool :=
  match K.lookup C with
  | some ⟨.type t, _, .cls cd, sl⟩ =>
    match sl.toList with
    | [_, _, _, _, some (.builtin i), _] =>
      decide (t = "type") && decide (cd.mro = .ref C :: .ref B :: ms) && cd.hasDict && !cd.hasDel && decide (i = nw)
    | _ => false
  | _ => false
theorem excB_ok {K : PySem.W.Frag} {C B : Addr} {ms : List Value} {nw : String} (h : excB K C B ms nw = true) :
    ∃ c : CV, K.lookup C = some (excClassObj c.nm c.q C c.N c.bs (.ref B :: ms) true c.sn c.sub c.ab c.col c.dd c.m0 c.m1 c.m2 c.m3 c.m5 nw) := by
  unfold excB at h
  split at h
  · rename_i t dd cd sl hl
    split at h
    · rename_i k0 k1 k2 k3 i k5 hs
      simp only [Bool.and_eq_true, decide_eq_true_eq, Bool.not_eq_true'] at h
      obtain ⟨⟨⟨⟨ht, hm⟩, hd⟩, hx⟩, hi⟩ := h
      obtain ⟨x1, x2, x3, x4, x5, x6, x7, x8, x9, x10, x11⟩ := cd
      obtain ⟨sl⟩ := sl
      simp only at hm hd hx hs
      subst hm hd hx ht hi hs
      exact ⟨⟨x1, x5, x4, x2, x7, x8, x9, x10, dd, k0, k1, k2, k3, k5⟩, hl⟩
    · cases h
  · cases h

/-- what a def, a class or a namespace leads to: its code, its namespace, its values -/
def leads (g : Addr → Option Obj) (a : Addr) : List Addr :=
  match g a with
  | some ⟨_, _, .func fd, _⟩ => He.refV fd.code
  | some ⟨_, _, .cls cd, _⟩ => [cd.ns]
  | some ⟨_, _, .dict es _, _⟩ => es.toList.flatMap fun e => He.refV e.val
  | some ⟨.type t, _, .seq its _, _⟩ => if t = "tuple" then its.toList.flatMap He.refV else []
  | _ => []
def frOf (g : Addr → Option Obj) (ns : List Str) : PySem.W.Frag :=
  let A := ns.map (He.ga (He.frG g [mainGlobals]))
  let B := A.flatMap (leads g)
  let C := B.flatMap (leads g)
  He.frG g (mainGlobals :: A ++ (B ++ (C ++ C.flatMap (leads g))))

def hookF (ns : List Str) (bs : PySem.W.Frag → List Bool) (fs : PySem.W.Frag → List FnT) (ws : List FnT) : PySem.W.Hook where
  α := Bool × List FnT
  obs s := ((bs (frOf s.heap.get? ns)).all id, fs (frOf s.heap.get? ns))
  val _ := (true, ws)
  says _ h := ∃ K : PySem.W.Frag, K.In h ∧ (bs K).all id = true ∧ fs K = ws
  of _ _ e := ⟨_, He.frG_in, (Prod.mk.inj e).1, (Prod.mk.inj e).2⟩
  keeps _ _ _ := fun ⟨K, a, b⟩ f => ⟨K, fun x o e => f x o (a x o e), b⟩

def obF (ns : List Str) (bs : PySem.W.Frag → List Bool) (fs : PySem.W.Frag → List FnT) (s : PySem.W.SharedT) : Bool × List FnT :=
  ((bs (frOf (HandSHeadRun.getT s) ns)).all id, fs (frOf (HandSHeadRun.getT s) ns))
theorem obF_eq {ns : List Str} {bs : PySem.W.Frag → List Bool} {fs : PySem.W.Frag → List FnT} {ws : List FnT} (s : PySem.W.SharedT) :
    obF ns bs fs s = (hookF ns bs fs ws).obs s.abs := by
  have e : HandSHeadRun.getT s = s.abs.heap.get? := funext (HandSHeadRun.getT_eq s)
  unfold obF hookF
  simp only [e]

noncomputable abbrev wholeO (r : PySem.W.OpenRow) (M : Nat) (w : World) : Option (Shared × PySem.W.SharedT) :=
  HandSHeadRun.wholeF (fun p => HandSHeadRun.stepQ (HandSHeadRun.denQ HandSHeadRun.tabQ) p w) HandSHeadRun.fenceQ M r.prog
def RunB (r : PySem.W.OpenRow) (M : Nat) (w : World) (ns : List Str) (b : PySem.W.Frag → List Bool) : Prop :=
  Option.map (fun x => (b (frOf (HandSHeadRun.getT x.2) ns)).all id) (wholeO r M w) = some true
def RunF (r : PySem.W.OpenRow) (M : Nat) (w : World) (ns : List Str) (f : PySem.W.Frag → List FnT) (ws : List FnT) : Prop :=
  Option.map (fun x => f (frOf (HandSHeadRun.getT x.2) ns)) (wholeO r M w) = some ws
theorem run_b {r : PySem.W.OpenRow} {q : Program} {M : Nat} {loose : List Str} {w : World} {ns : List Str} {b b' : PySem.W.Frag → List Bool} {f : PySem.W.Frag → List FnT} {ws : List FnT}
    (h : HandSHeadRun.RunEqI r q (hookF ns b f ws) (obF ns b f) M loose w) (h' : RunB r M w ns b') :
    HandSHeadRun.RunEqI r q (hookF ns (fun K => b' K ++ b K) f ws) (obF ns (fun K => b' K ++ b K) f) M loose w := by
  unfold HandSHeadRun.RunEqI at h ⊢
  unfold RunB wholeO at h'
  generalize HandSHeadRun.wholeF (fun p => HandSHeadRun.stepQ (HandSHeadRun.denQ HandSHeadRun.tabQ) p w) HandSHeadRun.fenceQ M r.prog = o at h h' ⊢
  cases o with
  | none => cases h
  | some x =>
    have h := Prod.mk.inj (Option.some.inj h)
    have h2 := Prod.mk.inj h.2
    have h3 := Prod.mk.inj h2.2
    have h' := Option.some.inj h'
    show some _ = some _
    refine congrArg some (Prod.ext h.1 (Prod.ext h2.1 (Prod.ext ?_ h3.2)))
    show (b' _ ++ b _).all id = true
    have h4 : (b' (frOf (HandSHeadRun.getT x.2) ns)).all id = true := h'
    rw [List.all_append, h4, Bool.true_and]
    exact h3.1
theorem run_f {r : PySem.W.OpenRow} {q : Program} {M : Nat} {loose : List Str} {w : World} {ns : List Str} {b : PySem.W.Frag → List Bool} {f f' : PySem.W.Frag → List FnT} {ws ws' : List FnT}
    (h : HandSHeadRun.RunEqI r q (hookF ns b f ws) (obF ns b f) M loose w) (h' : RunF r M w ns f' ws') :
    HandSHeadRun.RunEqI r q (hookF ns b (fun K => f' K ++ f K) (ws' ++ ws)) (obF ns b (fun K => f' K ++ f K)) M loose w := by
  unfold HandSHeadRun.RunEqI at h ⊢
  unfold RunF wholeO at h'
  generalize HandSHeadRun.wholeF (fun p => HandSHeadRun.stepQ (HandSHeadRun.denQ HandSHeadRun.tabQ) p w) HandSHeadRun.fenceQ M r.prog = o at h h' ⊢
  cases o with
  | none => cases h
  | some x =>
    have h := Prod.mk.inj (Option.some.inj h)
    have h2 := Prod.mk.inj h.2
    have h3 := Prod.mk.inj h2.2
    have h' := Option.some.inj h'
    show some _ = some _
    refine congrArg some (Prod.ext h.1 (Prod.ext h2.1 (Prod.ext h3.1 ?_)))
    show f' _ ++ f _ = ws' ++ ws
    exact congr (congrArg _ h') h3.2

theorem nthB : ∀ {l : List Bool}, l.all id = true → ∀ i : Nat, l.getD i true = true
  | [], _, _ => rfl
  | b :: l, h, 0 => by
    simp only [List.all_cons, id, Bool.and_eq_true] at h
    exact h.1
  | b :: l, h, i + 1 => by
    simp only [List.all_cons, id, Bool.and_eq_true] at h
    exact nthB (l := l) h.2 i
theorem nthF {l m : List FnT} (h : l = m) (i : Nat) : l.getD i none = m.getD i none := by rw [h]
theorem dok {p : Prop} [Decidable p] (h : decide p = true) : p := of_decide_eq_true h

theorem walk_ofEW {l : PySem.W.OpenLaw} {n k : Nat} {q : Program} {loose : List Str} {XP : (Str → Option Value) → Heap → Prop} {YP : World → Heap → Prop} {d : DefRec} {CX : World → L2.CXT} {x : Str}
    (hn : l.most = some n) (hz : n ≤ sizeLine) (hd : d.params.defaults = []) (hr : L2.Room k callerA)
    (F : ∀ (w : World) (mg : Str → Option Value) (fa : Addr) (h : Heap), YP w h → h.Ns mainGlobals mg → mg d.name = some (.ref fa) →
      ∃ K fd sp, PySem.W.Frag.In K h ∧ (∀ (s : Shared) (u : Value), BindsTo s fd { pos := [u] } [(x, u)]) ∧
        (∀ (H : L2.Hp) (a : Addr) (ns : List Int), ns.length ≤ n → L2.Only H → L2.SqL K H a (ns.map L2.V.int) → sp [L2.V.ref a] H (fun v x => v = L2.V.bl true) fun x x_1 x_2 => False) ∧
        ∀ base : Heap, PySem.W.Frag.In K base → base.Ns mainGlobals mg → L2.FnOk l.prog w K mg base (CX w) k fa fd [x] sp)
    (N : ∀ (w : World) (H : L2.Hp) (s : Shared) (e : Value) (s' : Shared), CX w [] H s (fun x x_1 x_2 => False) e s' → False) :
    PySem.W.WalkO q loose XP YP l.row.toRowW d [] (fun f vs => PySem.call f vs) := by
  intro w s0 s1 mg mb Gr Y
  refine L2.walk_ofE (l := l) (n := n) (k := k) (q := q) (loose := loose) (XP := XP) (YP := fun w' h => w' = w ∧ YP w h) (d := d) (CX := CX w) (x := x) hn hz hd hr ?_ (N w) w s0 s1 mg mb Gr ⟨rfl, Y⟩
  rintro w' mg' fa h ⟨rfl, Y'⟩ G hm
  exact F w' mg' fa h Y' G hm
end L2.My

namespace L2.My
open PySem PySem.Spec PyProof.Rows
def Z_top (i : Nat) : Stmt := PySem.Challenge.pw_threetiles_k63_floors_led_up_and_back.main.body.getD i (.Pass ⟨0, 0, 0, 0⟩)

abbrev Z_s_is_integral : Stmt := Z_top 17
abbrev Z_s_BadPoint_init : Stmt := inClass (Z_top 5) 0
abbrev Z_s_BadCorner_init : Stmt := inClass (Z_top 6) 0
abbrev Z_s_Barred_init : Stmt := inClass (Z_top 7) 0
abbrev Z_s_BadSize_init : Stmt := inClass (Z_top 12) 0
abbrev Z_s_BadBounds_init : Stmt := inClass (Z_top 13) 0
abbrev Z_s_BadFloor_init : Stmt := inClass (Z_top 15) 0
abbrev Z_s_BadNumber_init : Stmt := inClass (Z_top 4) 0
abbrev Z_s_Root_init : Stmt := inClass (Z_top 22) 0
abbrev Z_s_Root_eq : Stmt := inClass (Z_top 22) 1
abbrev Z_s_Root_neg : Stmt := inClass (Z_top 22) 8
abbrev Z_s_is_number : Stmt := Z_top 18
abbrev Z_s_as_root : Stmt := Z_top 19
abbrev Z_s_surd_sign : Stmt := Z_top 20
abbrev Z_s_Root_add : Stmt := inClass (Z_top 22) 2
abbrev Z_s_Root_sub : Stmt := inClass (Z_top 22) 4
abbrev Z_s_Root_mul : Stmt := inClass (Z_top 22) 6
abbrev Z_s_Root_radd : Stmt := inClass (Z_top 22) 3
abbrev Z_s_Root_rmul : Stmt := inClass (Z_top 22) 7
abbrev Z_s_Root_rsub : Stmt := inClass (Z_top 22) 5
abbrev Z_s_Root_over : Stmt := inClass (Z_top 22) 9
abbrev Z_s_Root_less : Stmt := inClass (Z_top 22) 10
abbrev Z_s_Root_sign : Stmt := inClass (Z_top 22) 11
abbrev Z_s_is_corner : Stmt := Z_top 28
abbrev Z_s_check_corner : Stmt := Z_top 29
abbrev Z_s_step : Stmt := Z_top 30
abbrev Z_s_is_point : Stmt := Z_top 24
abbrev Z_s_as_roots : Stmt := Z_top 25
abbrev Z_s_check_point : Stmt := Z_top 41
abbrev Z_s_is_half : Stmt := Z_top 42
abbrev Z_s_bars_evenly : Stmt := Z_top 43
abbrev Z_s_bars_oddly : Stmt := Z_top 44
abbrev Z_s_barred : Stmt := Z_top 45
abbrev Z_s_gauge_of : Stmt := Z_top 37
abbrev Z_s_beside : Stmt := Z_top 38
abbrev Z_s_in_window : Stmt := Z_top 39
abbrev Z_s_Floor_init : Stmt := inClass (Z_top 46) 0
abbrev Z_s_Floor_has_corner : Stmt := inClass (Z_top 46) 3
abbrev Z_s_Floor_eq : Stmt := inClass (Z_top 46) 1
abbrev Z_s_is_bound : Stmt := Z_top 54
abbrev Z_s_check_bounds : Stmt := Z_top 55
abbrev Z_s_toward : Stmt := Z_top 56
abbrev Z_s_least_indexes : Stmt := Z_top 57
abbrev Z_s_least_numbers : Stmt := Z_top 58
abbrev Z_s_over_common : Stmt := Z_top 59
abbrev Z_s_pair_sum : Stmt := Z_top 61
abbrev Z_s_presses_on : Stmt := Z_top 60
abbrev Z_s_barring_parts : Stmt := Z_top 62
abbrev Z_s_least_pair : Stmt := Z_top 63
abbrev Z_s_tightened : Stmt := Z_top 64
abbrev Z_s_Piece_init : Stmt := inClass (Z_top 70) 0
abbrev Z_s_Piece_is_empty : Stmt := inClass (Z_top 70) 3
abbrev Z_s_rows_of : Stmt := Z_top 66
abbrev Z_s_Piece_has : Stmt := inClass (Z_top 70) 2
abbrev Z_s__law_dice : Stmt := Z_top 80
abbrev Z_s__law_draw : Stmt := Z_top 81
abbrev Z_s__law_wide : Stmt := Z_top 82
abbrev Z_s_check_floor : Stmt := Z_top 47
abbrev Z_s_check_many : Stmt := Z_top 73
abbrev Z_s_factor : Stmt := Z_top 74
abbrev Z_s_scaled : Stmt := Z_top 26
abbrev Z_s_led : Stmt := Z_top 75
abbrev Z_s_greater_floor : Stmt := Z_top 76
abbrev Z_s_lesser_floor : Stmt := Z_top 77
abbrev Z_s_led_up : Stmt := Z_top 78
abbrev Z_s__law_is_half : Stmt := Z_top 83
abbrev Z_s__law_is_let : Stmt := Z_top 84
abbrev Z_s__law_let : Stmt := Z_top 85
abbrev Z_s__law_shift : Stmt := Z_top 86
abbrev Z_s__law_led : Stmt := Z_top 87
abbrev Z_s__law_number : Stmt := Z_top 88
abbrev Z_s__law_point : Stmt := Z_top 89
abbrev Z_s__law_is_integer : Stmt := Z_top 90
abbrev Z_s__law_is_root : Stmt := Z_top 91
abbrev Z_s__law_is_floor : Stmt := Z_top 92
abbrev Z_s_Piece_eq : Stmt := inClass (Z_top 70) 1
abbrev Z_s__law_no_floor : Stmt := Z_top 93
abbrev Z_s__law_no_size : Stmt := Z_top 94
abbrev Z_s__law_told : Stmt := Z_top 95
abbrev Z_s__law_both_refused : Stmt := Z_top 96
abbrev Z_s__law_refusals : Stmt := Z_top 97
abbrev Z_s_law : Stmt := Z_top 98
def A_c_VECTORS (K : PySem.W.Frag) : Addr := adr (PySem.W.nsIn K mainGlobals "VECTORS")
def A_c_ODD_PRESSES (K : PySem.W.Frag) : Addr := adr (PySem.W.nsIn K mainGlobals "ODD_PRESSES")
def A_c_EVEN_PRESSES (K : PySem.W.Frag) : Addr := adr (PySem.W.nsIn K mainGlobals "EVEN_PRESSES")
def A_c_BARRING (K : PySem.W.Frag) : Addr := adr (PySem.W.nsIn K mainGlobals "BARRING")
def A_c_FloorError (K : PySem.W.Frag) : Addr := adr (PySem.W.nsIn K mainGlobals "FloorError")
def A_c_BadNumber (K : PySem.W.Frag) : Addr := adr (PySem.W.nsIn K mainGlobals "BadNumber")
def A_c_BadPoint (K : PySem.W.Frag) : Addr := adr (PySem.W.nsIn K mainGlobals "BadPoint")
def A_c_BadCorner (K : PySem.W.Frag) : Addr := adr (PySem.W.nsIn K mainGlobals "BadCorner")
def A_c_Barred (K : PySem.W.Frag) : Addr := adr (PySem.W.nsIn K mainGlobals "Barred")
def A_c_BadSize (K : PySem.W.Frag) : Addr := adr (PySem.W.nsIn K mainGlobals "BadSize")
def A_c_BadBounds (K : PySem.W.Frag) : Addr := adr (PySem.W.nsIn K mainGlobals "BadBounds")
def A_c_BadFloor (K : PySem.W.Frag) : Addr := adr (PySem.W.nsIn K mainGlobals "BadFloor")
def A_c_Root (K : PySem.W.Frag) : Addr := adr (PySem.W.nsIn K mainGlobals "Root")
def A_c_Floor (K : PySem.W.Frag) : Addr := adr (PySem.W.nsIn K mainGlobals "Floor")
def A_c_Piece (K : PySem.W.Frag) : Addr := adr (PySem.W.nsIn K mainGlobals "Piece")
def A_gAX (K : PySem.W.Frag) : Addr := adr (PySem.W.findIn K (.ref (A_c_Root K)) "__radd__")
def A_gSX (K : PySem.W.Frag) : Addr := adr (PySem.W.findIn K (.ref (A_c_Root K)) "__rsub__")
def A_gMX (K : PySem.W.Frag) : Addr := adr (PySem.W.findIn K (.ref (A_c_Root K)) "__rmul__")
def A_f_is_integral (K : PySem.W.Frag) : Addr := adr (PySem.W.nsIn K mainGlobals "is_integral")
def A_f_BadPoint_init (K : PySem.W.Frag) : Addr := adr (PySem.W.findIn K (.ref (A_c_BadPoint K)) "__init__")
def A_f_BadCorner_init (K : PySem.W.Frag) : Addr := adr (PySem.W.findIn K (.ref (A_c_BadCorner K)) "__init__")
def A_f_Barred_init (K : PySem.W.Frag) : Addr := adr (PySem.W.findIn K (.ref (A_c_Barred K)) "__init__")
def A_f_BadSize_init (K : PySem.W.Frag) : Addr := adr (PySem.W.findIn K (.ref (A_c_BadSize K)) "__init__")
def A_f_BadBounds_init (K : PySem.W.Frag) : Addr := adr (PySem.W.findIn K (.ref (A_c_BadBounds K)) "__init__")
def A_f_BadFloor_init (K : PySem.W.Frag) : Addr := adr (PySem.W.findIn K (.ref (A_c_BadFloor K)) "__init__")
def A_f_BadNumber_init (K : PySem.W.Frag) : Addr := adr (PySem.W.findIn K (.ref (A_c_BadNumber K)) "__init__")
def A_f_Root_init (K : PySem.W.Frag) : Addr := adr (PySem.W.findIn K (.ref (A_c_Root K)) "__init__")
def A_f_Root_eq (K : PySem.W.Frag) : Addr := adr (PySem.W.findIn K (.ref (A_c_Root K)) "__eq__")
def A_f_Root_neg (K : PySem.W.Frag) : Addr := adr (PySem.W.findIn K (.ref (A_c_Root K)) "__neg__")
def A_f_is_number (K : PySem.W.Frag) : Addr := adr (PySem.W.nsIn K mainGlobals "is_number")
def A_f_as_root (K : PySem.W.Frag) : Addr := adr (PySem.W.nsIn K mainGlobals "as_root")
def A_f_surd_sign (K : PySem.W.Frag) : Addr := adr (PySem.W.nsIn K mainGlobals "surd_sign")
def A_f_Root_add (K : PySem.W.Frag) : Addr := adr (PySem.W.findIn K (.ref (A_c_Root K)) "__add__")
def A_f_Root_sub (K : PySem.W.Frag) : Addr := adr (PySem.W.findIn K (.ref (A_c_Root K)) "__sub__")
def A_f_Root_mul (K : PySem.W.Frag) : Addr := adr (PySem.W.findIn K (.ref (A_c_Root K)) "__mul__")
def A_f_Root_radd (K : PySem.W.Frag) : Addr := adr (PySem.W.findIn K (.ref (A_c_Root K)) "__radd__")
def A_f_Root_rmul (K : PySem.W.Frag) : Addr := adr (PySem.W.findIn K (.ref (A_c_Root K)) "__rmul__")
def A_f_Root_rsub (K : PySem.W.Frag) : Addr := adr (PySem.W.findIn K (.ref (A_c_Root K)) "__rsub__")
def A_f_Root_over (K : PySem.W.Frag) : Addr := adr (PySem.W.findIn K (.ref (A_c_Root K)) "over")
def A_f_Root_less (K : PySem.W.Frag) : Addr := adr (PySem.W.findIn K (.ref (A_c_Root K)) "less")
def A_f_Root_sign (K : PySem.W.Frag) : Addr := adr (PySem.W.findIn K (.ref (A_c_Root K)) "sign")
def A_f_is_corner (K : PySem.W.Frag) : Addr := adr (PySem.W.nsIn K mainGlobals "is_corner")
def A_f_check_corner (K : PySem.W.Frag) : Addr := adr (PySem.W.nsIn K mainGlobals "check_corner")
def A_f_step (K : PySem.W.Frag) : Addr := adr (PySem.W.nsIn K mainGlobals "step")
def A_f_is_point (K : PySem.W.Frag) : Addr := adr (PySem.W.nsIn K mainGlobals "is_point")
def A_f_as_roots (K : PySem.W.Frag) : Addr := adr (PySem.W.nsIn K mainGlobals "as_roots")
def A_f_check_point (K : PySem.W.Frag) : Addr := adr (PySem.W.nsIn K mainGlobals "check_point")
def A_f_is_half (K : PySem.W.Frag) : Addr := adr (PySem.W.nsIn K mainGlobals "is_half")
def A_f_bars_evenly (K : PySem.W.Frag) : Addr := adr (PySem.W.nsIn K mainGlobals "bars_evenly")
def A_f_bars_oddly (K : PySem.W.Frag) : Addr := adr (PySem.W.nsIn K mainGlobals "bars_oddly")
def A_f_barred (K : PySem.W.Frag) : Addr := adr (PySem.W.nsIn K mainGlobals "barred")
def A_f_gauge_of (K : PySem.W.Frag) : Addr := adr (PySem.W.nsIn K mainGlobals "gauge_of")
def A_f_beside (K : PySem.W.Frag) : Addr := adr (PySem.W.nsIn K mainGlobals "beside")
def A_f_in_window (K : PySem.W.Frag) : Addr := adr (PySem.W.nsIn K mainGlobals "in_window")
def A_f_Floor_init (K : PySem.W.Frag) : Addr := adr (PySem.W.findIn K (.ref (A_c_Floor K)) "__init__")
def A_f_Floor_has_corner (K : PySem.W.Frag) : Addr := adr (PySem.W.findIn K (.ref (A_c_Floor K)) "has_corner")
def A_f_Floor_eq (K : PySem.W.Frag) : Addr := adr (PySem.W.findIn K (.ref (A_c_Floor K)) "__eq__")
def A_f_is_bound (K : PySem.W.Frag) : Addr := adr (PySem.W.nsIn K mainGlobals "is_bound")
def A_f_check_bounds (K : PySem.W.Frag) : Addr := adr (PySem.W.nsIn K mainGlobals "check_bounds")
def A_f_toward (K : PySem.W.Frag) : Addr := adr (PySem.W.nsIn K mainGlobals "toward")
def A_f_least_indexes (K : PySem.W.Frag) : Addr := adr (PySem.W.nsIn K mainGlobals "least_indexes")
def A_f_least_numbers (K : PySem.W.Frag) : Addr := adr (PySem.W.nsIn K mainGlobals "least_numbers")
def A_f_over_common (K : PySem.W.Frag) : Addr := adr (PySem.W.nsIn K mainGlobals "over_common")
def A_f_pair_sum (K : PySem.W.Frag) : Addr := adr (PySem.W.nsIn K mainGlobals "pair_sum")
def A_f_presses_on (K : PySem.W.Frag) : Addr := adr (PySem.W.nsIn K mainGlobals "presses_on")
def A_f_barring_parts (K : PySem.W.Frag) : Addr := adr (PySem.W.nsIn K mainGlobals "barring_parts")
def A_f_least_pair (K : PySem.W.Frag) : Addr := adr (PySem.W.nsIn K mainGlobals "least_pair")
def A_f_tightened (K : PySem.W.Frag) : Addr := adr (PySem.W.nsIn K mainGlobals "tightened")
def A_f_Piece_init (K : PySem.W.Frag) : Addr := adr (PySem.W.findIn K (.ref (A_c_Piece K)) "__init__")
def A_f_Piece_is_empty (K : PySem.W.Frag) : Addr := adr (PySem.W.findIn K (.ref (A_c_Piece K)) "is_empty")
def A_f_rows_of (K : PySem.W.Frag) : Addr := adr (PySem.W.nsIn K mainGlobals "rows_of")
def A_f_Piece_has (K : PySem.W.Frag) : Addr := adr (PySem.W.findIn K (.ref (A_c_Piece K)) "has")
def A_f__law_dice (K : PySem.W.Frag) : Addr := adr (PySem.W.nsIn K mainGlobals "_law_dice")
def A_f__law_draw (K : PySem.W.Frag) : Addr := adr (PySem.W.nsIn K mainGlobals "_law_draw")
def A_f__law_wide (K : PySem.W.Frag) : Addr := adr (PySem.W.nsIn K mainGlobals "_law_wide")
def A_f_check_floor (K : PySem.W.Frag) : Addr := adr (PySem.W.nsIn K mainGlobals "check_floor")
def A_f_check_many (K : PySem.W.Frag) : Addr := adr (PySem.W.nsIn K mainGlobals "check_many")
def A_f_factor (K : PySem.W.Frag) : Addr := adr (PySem.W.nsIn K mainGlobals "factor")
def A_f_scaled (K : PySem.W.Frag) : Addr := adr (PySem.W.nsIn K mainGlobals "scaled")
def A_f_led (K : PySem.W.Frag) : Addr := adr (PySem.W.nsIn K mainGlobals "led")
def A_f_greater_floor (K : PySem.W.Frag) : Addr := adr (PySem.W.nsIn K mainGlobals "greater_floor")
def A_f_lesser_floor (K : PySem.W.Frag) : Addr := adr (PySem.W.nsIn K mainGlobals "lesser_floor")
def A_f_led_up (K : PySem.W.Frag) : Addr := adr (PySem.W.nsIn K mainGlobals "led_up")
def A_f__law_is_half (K : PySem.W.Frag) : Addr := adr (PySem.W.nsIn K mainGlobals "_law_is_half")
def A_f__law_is_let (K : PySem.W.Frag) : Addr := adr (PySem.W.nsIn K mainGlobals "_law_is_let")
def A_f__law_let (K : PySem.W.Frag) : Addr := adr (PySem.W.nsIn K mainGlobals "_law_let")
def A_f__law_shift (K : PySem.W.Frag) : Addr := adr (PySem.W.nsIn K mainGlobals "_law_shift")
def A_f__law_led (K : PySem.W.Frag) : Addr := adr (PySem.W.nsIn K mainGlobals "_law_led")
def A_f__law_number (K : PySem.W.Frag) : Addr := adr (PySem.W.nsIn K mainGlobals "_law_number")
def A_f__law_point (K : PySem.W.Frag) : Addr := adr (PySem.W.nsIn K mainGlobals "_law_point")
def A_f__law_is_integer (K : PySem.W.Frag) : Addr := adr (PySem.W.nsIn K mainGlobals "_law_is_integer")
def A_f__law_is_root (K : PySem.W.Frag) : Addr := adr (PySem.W.nsIn K mainGlobals "_law_is_root")
def A_f__law_is_floor (K : PySem.W.Frag) : Addr := adr (PySem.W.nsIn K mainGlobals "_law_is_floor")
def A_f_Piece_eq (K : PySem.W.Frag) : Addr := adr (PySem.W.findIn K (.ref (A_c_Piece K)) "__eq__")
def A_f__law_no_floor (K : PySem.W.Frag) : Addr := adr (PySem.W.nsIn K mainGlobals "_law_no_floor")
def A_f__law_no_size (K : PySem.W.Frag) : Addr := adr (PySem.W.nsIn K mainGlobals "_law_no_size")
def A_f__law_told (K : PySem.W.Frag) : Addr := adr (PySem.W.nsIn K mainGlobals "_law_told")
def A_f__law_both_refused (K : PySem.W.Frag) : Addr := adr (PySem.W.nsIn K mainGlobals "_law_both_refused")
def A_f__law_refusals (K : PySem.W.Frag) : Addr := adr (PySem.W.nsIn K mainGlobals "_law_refusals")
def A_f_law (K : PySem.W.Frag) : Addr := adr (PySem.W.nsIn K mainGlobals "law")
def nsK : List Str := (["FloorError", "BadNumber", "BadPoint", "BadCorner", "Barred", "BadSize", "BadBounds", "BadFloor", "Root", "Floor", "Piece", "VECTORS", "ODD_PRESSES", "EVEN_PRESSES", "BARRING", "is_integral", "is_number", "as_root", "surd_sign", "is_corner", "check_corner", "step", "is_point", "as_roots", "check_point", "is_half", "bars_evenly", "bars_oddly", "barred", "gauge_of"] : List Str) ++ (["beside", "in_window", "is_bound", "check_bounds", "toward", "least_indexes", "least_numbers", "over_common", "pair_sum", "presses_on", "barring_parts", "least_pair", "tightened", "rows_of", "_law_dice", "_law_draw", "_law_wide", "check_floor", "check_many", "factor", "scaled", "led", "greater_floor", "lesser_floor", "led_up", "_law_is_half", "_law_is_let", "_law_let", "_law_shift", "_law_led"] : List Str) ++ (["_law_number", "_law_point", "_law_is_integer", "_law_is_root", "_law_is_floor", "_law_no_floor", "_law_no_size", "_law_told", "_law_both_refused", "_law_refusals", "law"] : List Str)
def namesK : List Str := (["gcd", "isqrt", "lcm", "_wall", "__name__", "FloorError", "BadNumber", "BadPoint", "BadCorner", "Barred", "NoCorner", "BadTile", "NoTile", "BadSide", "BadSize", "BadBounds", "Unbounded", "BadFloor", "is_integral", "is_number", "as_root", "surd_sign", "surd_whole", "Root", "is_point", "as_roots", "scaled", "is_corner", "check_corner", "step"] : List Str) ++ (["is_tile", "check_tile", "tile_corners", "tile_between", "gauge_of", "beside", "in_window", "check_point", "is_half", "bars_evenly", "bars_oddly", "barred", "Floor", "check_floor", "VECTORS", "MOST_BOUNDS", "BARRING", "EVEN_PRESSES", "ODD_PRESSES", "is_bound", "check_bounds", "toward", "least_indexes", "least_numbers", "over_common", "presses_on", "pair_sum", "barring_parts", "least_pair", "tightened"] : List Str) ++ (["rows_of", "rim_corner", "is_ahead", "from_least", "Piece", "MOST_LED", "check_many", "factor", "led", "greater_floor", "lesser_floor", "led_up", "_law_dice", "_law_draw", "_law_wide", "_law_is_half", "_law_is_let", "_law_let", "_law_shift", "_law_led", "_law_number", "_law_point", "_law_is_integer", "_law_is_root", "_law_is_floor", "_law_no_floor", "_law_no_size", "_law_told", "_law_both_refused", "_law_refusals"] : List Str)
def bs0 (K : PySem.W.Frag) : List Bool := [
  decide (isIntV (PySem.W.nsIn K mainGlobals "MOST_BOUNDS") 400 = true),
  decide (isIntV (PySem.W.nsIn K mainGlobals "MOST_LED") 40 = true),
  isR (PySem.W.nsIn K mainGlobals "VECTORS"),
  isR (PySem.W.nsIn K mainGlobals "ODD_PRESSES"),
  isR (PySem.W.nsIn K mainGlobals "EVEN_PRESSES"),
  isR (PySem.W.nsIn K mainGlobals "BARRING"),
  decide (kdB K 8 (.ref (A_c_VECTORS K)) (.tuple [.tuple [.int 1, .int 0], .tuple [.int 1, .int 1], .tuple [.int 0, .int 1], .tuple [.int (-1), .int 1], .tuple [.int (-1), .int 0], .tuple [.int (-1), .int (-1)], .tuple [.int 0, .int (-1)], .tuple [.int 1, .int (-1)]]) = true),
  decide (kdB K 8 (.ref (A_c_ODD_PRESSES K)) (.tuple [.tuple [.int 1, .tuple [.tuple [.int 1, .int 1]]], .tuple [.int 1, .tuple [.tuple [.int 0, .int 1], .tuple [.int 2, .int 1]]], .tuple [.int 1, .tuple [.tuple [.int 0, .int 2], .tuple [.int 3, .int 1]]], .tuple [.int 1, .tuple [.tuple [.int 2, .int 2], .tuple [.int 7, .int 1]]]]) = true),
  decide (kdB K 8 (.ref (A_c_EVEN_PRESSES K)) (.tuple [.tuple [.int 1, .tuple [.tuple [.int 0, .int 1]]], .tuple [.int 2, .tuple [.tuple [.int 1, .int 1], .tuple [.int 7, .int 1]]], .tuple [.int 1, .tuple [.tuple [.int 2, .int 1], .tuple [.int 7, .int 1]]], .tuple [.int 1, .tuple [.tuple [.int 1, .int 1], .tuple [.int 6, .int 1]]]]) = true),
  decide (kdB K 8 (.ref (A_c_BARRING K)) (.tuple [.tuple [.tuple [.int 0, .int 1], .tuple [.int 4, .int 1]], .tuple [.tuple [.int 1, .int 1], .tuple [.int 5, .int 1]], .tuple [.tuple [.int 2, .int 1], .tuple [.int 6, .int 1]], .tuple [.tuple [.int 3, .int 1], .tuple [.int 7, .int 1]], .tuple [.tuple [.int 0, .int 1], .tuple [.int 3, .int 1], .tuple [.int 6, .int 1]], .tuple [.tuple [.int 1, .int 1], .tuple [.int 4, .int 2], .tuple [.int 7, .int 1]], .tuple [.tuple [.int 0, .int 1], .tuple [.int 2, .int 1], .tuple [.int 5, .int 1]], .tuple [.tuple [.int 1, .int 1], .tuple [.int 3, .int 1], .tuple [.int 6, .int 2]], .tuple [.tuple [.int 2, .int 1], .tuple [.int 4, .int 1], .tuple [.int 7, .int 1]], .tuple [.tuple [.int 0, .int 2], .tuple [.int 3, .int 1], .tuple [.int 5, .int 1]], .tuple [.tuple [.int 1, .int 1], .tuple [.int 4, .int 1], .tuple [.int 6, .int 1]], .tuple [.tuple [.int 2, .int 2], .tuple [.int 5, .int 1], .tuple [.int 7, .int 1]]]) = true),
  isR (PySem.W.nsIn K mainGlobals "FloorError"),
  isR (PySem.W.nsIn K mainGlobals "BadNumber"),
  isR (PySem.W.nsIn K mainGlobals "BadPoint"),
  isR (PySem.W.nsIn K mainGlobals "BadCorner"),
  isR (PySem.W.nsIn K mainGlobals "Barred"),
  isR (PySem.W.nsIn K mainGlobals "BadSize"),
  isR (PySem.W.nsIn K mainGlobals "BadBounds"),
  isR (PySem.W.nsIn K mainGlobals "BadFloor"),
  isR (PySem.W.nsIn K mainGlobals "Root"),
  isR (PySem.W.nsIn K mainGlobals "Floor"),
  isR (PySem.W.nsIn K mainGlobals "Piece"),
  decide (PySem.W.nsIn K mainGlobals "gcd" = some (some (.builtin "math.gcd"))),
  decide (PySem.W.nsIn K mainGlobals "lcm" = some (some (.builtin "math.lcm"))),
  decide (PySem.W.nsIn K mainGlobals "isinstance" = some none),
  decide (PySem.W.nsIn K mainGlobals "all" = some none),
  decide (PySem.W.nsIn K mainGlobals "len" = some none),
  decide (PySem.W.nsIn K mainGlobals "tuple" = some none),
  decide (PySem.W.nsIn K mainGlobals "list" = some none),
  decide (PySem.W.nsIn K mainGlobals "range" = some none),
  decide (PySem.W.nsIn K mainGlobals "enumerate" = some none),
  decide (PySem.W.nsIn K mainGlobals "int" = some none),
  decide (PySem.W.nsIn K mainGlobals "abs" = some none),
  decide (PySem.W.nsIn K mainGlobals "bool" = some none),
  decide (PySem.W.nsIn K mainGlobals "ValueError" = some none),
  decide (PySem.W.plainGet K (A_c_Root K) Str.empty = true),
  decide (PySem.W.hasDictIn K (A_c_Root K) = true),
  decide (PySem.W.plainOver K (A_c_Root K) = true),
  decide (PySem.W.findIn K (.ref (A_c_Root K)) "__setattr__" = some (some (.builtin "object.__setattr__"))),
  decide (PySem.W.findIn K (.ref (A_c_Root K)) "__class__" = some (some (.builtin "object.__class__"))),
  decide (PySem.W.mroIn K (A_c_Root K) (.type "object") = some true),
  decide (PySem.W.isClsIn K (A_c_Root K) = true),
  decide (PySem.W.typeIn K (.ref (A_c_Root K)) = some (.type "type")),
  decide (PySem.W.mroIn K (A_c_Root K) (.type "int") = some false),
  decide (PySem.W.mroIn K (A_c_Root K) (.type "bool") = some false),
  decide (PySem.W.findIn K (.ref (A_c_Root K)) "top" = some none),
  decide (PySem.W.findIn K (.ref (A_c_Root K)) "root" = some none),
  decide (PySem.W.findIn K (.ref (A_c_Root K)) "bottom" = some none),
  decide (PySem.W.selfFirst K (A_c_Root K) = true),
  isR (PySem.W.findIn K (.ref (A_c_Root K)) "__radd__"),
  isR (PySem.W.findIn K (.ref (A_c_Root K)) "__rsub__"),
  isR (PySem.W.findIn K (.ref (A_c_Root K)) "__rmul__"),
  decide (PySem.W.plainGet K (A_c_Floor K) Str.empty = true),
  decide (PySem.W.hasDictIn K (A_c_Floor K) = true),
  decide (PySem.W.plainOver K (A_c_Floor K) = true),
  decide (PySem.W.findIn K (.ref (A_c_Floor K)) "__setattr__" = some (some (.builtin "object.__setattr__"))),
  decide (PySem.W.findIn K (.ref (A_c_Floor K)) "__class__" = some (some (.builtin "object.__class__"))),
  decide (PySem.W.mroIn K (A_c_Floor K) (.type "object") = some true),
  decide (PySem.W.isClsIn K (A_c_Floor K) = true),
  decide (PySem.W.typeIn K (.ref (A_c_Floor K)) = some (.type "type")),
  decide (PySem.W.mroIn K (A_c_Floor K) (.type "int") = some false),
  decide (PySem.W.mroIn K (A_c_Floor K) (.type "bool") = some false),
  decide (PySem.W.findIn K (.ref (A_c_Floor K)) "shift" = some none),
  decide (PySem.W.findIn K (.ref (A_c_Floor K)) "_gauge" = some none),
  decide (PySem.W.plainGet K (A_c_Piece K) Str.empty = true),
  decide (PySem.W.hasDictIn K (A_c_Piece K) = true),
  decide (PySem.W.plainOver K (A_c_Piece K) = true),
  decide (PySem.W.findIn K (.ref (A_c_Piece K)) "__setattr__" = some (some (.builtin "object.__setattr__"))),
  decide (PySem.W.findIn K (.ref (A_c_Piece K)) "__class__" = some (some (.builtin "object.__class__"))),
  decide (PySem.W.mroIn K (A_c_Piece K) (.type "object") = some true),
  decide (PySem.W.isClsIn K (A_c_Piece K) = true),
  decide (PySem.W.typeIn K (.ref (A_c_Piece K)) = some (.type "type")),
  decide (PySem.W.mroIn K (A_c_Piece K) (.type "int") = some false),
  decide (PySem.W.mroIn K (A_c_Piece K) (.type "bool") = some false),
  decide (PySem.W.findIn K (.ref (A_c_Piece K)) "bounds" = some none),
  decide (PySem.W.mroIn K (A_c_Floor K) (.ref (A_c_Floor K)) = some true),
  decide (PySem.W.mroIn K (A_c_Root K) (.ref (A_c_Floor K)) = some false),
  decide (PySem.W.mroIn K (A_c_Piece K) (.ref (A_c_Floor K)) = some false),
  excB K (A_c_BadNumber K) (A_c_FloorError K) [.type "ValueError", .type "Exception", .type "BaseException", .type "object"] "ValueError.__new__",
  decide (PySem.W.findIn K (.ref (A_c_BadNumber K)) "__setattr__" = some (some (.builtin "object.__setattr__"))),
  decide (PySem.W.mroIn K (A_c_BadNumber K) (.type "BaseException") = some true),
  decide (PySem.W.typeIn K (.ref (A_c_BadNumber K)) = some (.type "type")),
  decide (PySem.W.keepIn K (.ref (A_c_BadNumber K)) = true),
  decide (PySem.W.findIn K (.ref (A_c_BadNumber K)) "value" = some none),
  decide (PySem.W.findIn K (.ref (A_c_BadNumber K)) "__getattribute__" = some (some (.builtin "BaseException.__getattribute__"))),
  decide (PySem.W.findIn K (.ref (A_c_BadNumber K)) "__getattr__" = some none),
  decide (PySem.W.hasDictIn K (A_c_BadNumber K) = true),
  decide (PySem.W.isClsIn K (A_c_BadNumber K) = true),
  decide (PySem.W.mroIn K (A_c_BadNumber K) (.ref (A_c_BadNumber K)) = some true),
  decide (PySem.W.findIn K (.ref (A_c_BadNumber K)) "__class__" = some (some (.builtin "object.__class__"))),
  decide (PySem.W.mroIn K (A_c_BadNumber K) (.type "object") = some true),
  excB K (A_c_BadPoint K) (A_c_FloorError K) [.type "ValueError", .type "Exception", .type "BaseException", .type "object"] "ValueError.__new__",
  decide (PySem.W.findIn K (.ref (A_c_BadPoint K)) "__setattr__" = some (some (.builtin "object.__setattr__"))),
  decide (PySem.W.mroIn K (A_c_BadPoint K) (.type "BaseException") = some true),
  decide (PySem.W.typeIn K (.ref (A_c_BadPoint K)) = some (.type "type")),
  decide (PySem.W.keepIn K (.ref (A_c_BadPoint K)) = true),
  decide (PySem.W.findIn K (.ref (A_c_BadPoint K)) "point" = some none),
  decide (PySem.W.findIn K (.ref (A_c_BadPoint K)) "__getattribute__" = some (some (.builtin "BaseException.__getattribute__"))),
  decide (PySem.W.findIn K (.ref (A_c_BadPoint K)) "__getattr__" = some none),
  decide (PySem.W.hasDictIn K (A_c_BadPoint K) = true),
  decide (PySem.W.isClsIn K (A_c_BadPoint K) = true)]
def bs1 (K : PySem.W.Frag) : List Bool := [
  decide (PySem.W.mroIn K (A_c_BadPoint K) (.ref (A_c_BadPoint K)) = some true),
  decide (PySem.W.findIn K (.ref (A_c_BadPoint K)) "__class__" = some (some (.builtin "object.__class__"))),
  decide (PySem.W.mroIn K (A_c_BadPoint K) (.type "object") = some true),
  excB K (A_c_BadCorner K) (A_c_FloorError K) [.type "ValueError", .type "Exception", .type "BaseException", .type "object"] "ValueError.__new__",
  decide (PySem.W.findIn K (.ref (A_c_BadCorner K)) "__setattr__" = some (some (.builtin "object.__setattr__"))),
  decide (PySem.W.mroIn K (A_c_BadCorner K) (.type "BaseException") = some true),
  decide (PySem.W.typeIn K (.ref (A_c_BadCorner K)) = some (.type "type")),
  decide (PySem.W.keepIn K (.ref (A_c_BadCorner K)) = true),
  decide (PySem.W.findIn K (.ref (A_c_BadCorner K)) "corner" = some none),
  decide (PySem.W.findIn K (.ref (A_c_BadCorner K)) "__getattribute__" = some (some (.builtin "BaseException.__getattribute__"))),
  decide (PySem.W.findIn K (.ref (A_c_BadCorner K)) "__getattr__" = some none),
  decide (PySem.W.hasDictIn K (A_c_BadCorner K) = true),
  decide (PySem.W.isClsIn K (A_c_BadCorner K) = true),
  decide (PySem.W.mroIn K (A_c_BadCorner K) (.ref (A_c_BadCorner K)) = some true),
  decide (PySem.W.findIn K (.ref (A_c_BadCorner K)) "__class__" = some (some (.builtin "object.__class__"))),
  decide (PySem.W.mroIn K (A_c_BadCorner K) (.type "object") = some true),
  excB K (A_c_Barred K) (A_c_FloorError K) [.type "ValueError", .type "Exception", .type "BaseException", .type "object"] "ValueError.__new__",
  decide (PySem.W.findIn K (.ref (A_c_Barred K)) "__setattr__" = some (some (.builtin "object.__setattr__"))),
  decide (PySem.W.mroIn K (A_c_Barred K) (.type "BaseException") = some true),
  decide (PySem.W.typeIn K (.ref (A_c_Barred K)) = some (.type "type")),
  decide (PySem.W.keepIn K (.ref (A_c_Barred K)) = true),
  decide (PySem.W.findIn K (.ref (A_c_Barred K)) "direction" = some none),
  decide (PySem.W.findIn K (.ref (A_c_Barred K)) "__getattribute__" = some (some (.builtin "BaseException.__getattribute__"))),
  decide (PySem.W.findIn K (.ref (A_c_Barred K)) "__getattr__" = some none),
  decide (PySem.W.hasDictIn K (A_c_Barred K) = true),
  decide (PySem.W.isClsIn K (A_c_Barred K) = true),
  decide (PySem.W.mroIn K (A_c_Barred K) (.ref (A_c_Barred K)) = some true),
  decide (PySem.W.findIn K (.ref (A_c_Barred K)) "__class__" = some (some (.builtin "object.__class__"))),
  decide (PySem.W.mroIn K (A_c_Barred K) (.type "object") = some true),
  excB K (A_c_BadSize K) (A_c_FloorError K) [.type "ValueError", .type "Exception", .type "BaseException", .type "object"] "ValueError.__new__",
  decide (PySem.W.findIn K (.ref (A_c_BadSize K)) "__setattr__" = some (some (.builtin "object.__setattr__"))),
  decide (PySem.W.mroIn K (A_c_BadSize K) (.type "BaseException") = some true),
  decide (PySem.W.typeIn K (.ref (A_c_BadSize K)) = some (.type "type")),
  decide (PySem.W.keepIn K (.ref (A_c_BadSize K)) = true),
  decide (PySem.W.findIn K (.ref (A_c_BadSize K)) "size" = some none),
  decide (PySem.W.findIn K (.ref (A_c_BadSize K)) "__getattribute__" = some (some (.builtin "BaseException.__getattribute__"))),
  decide (PySem.W.findIn K (.ref (A_c_BadSize K)) "__getattr__" = some none),
  decide (PySem.W.hasDictIn K (A_c_BadSize K) = true),
  decide (PySem.W.isClsIn K (A_c_BadSize K) = true),
  decide (PySem.W.mroIn K (A_c_BadSize K) (.ref (A_c_BadSize K)) = some true),
  decide (PySem.W.findIn K (.ref (A_c_BadSize K)) "__class__" = some (some (.builtin "object.__class__"))),
  decide (PySem.W.mroIn K (A_c_BadSize K) (.type "object") = some true),
  excB K (A_c_BadBounds K) (A_c_FloorError K) [.type "ValueError", .type "Exception", .type "BaseException", .type "object"] "ValueError.__new__",
  decide (PySem.W.findIn K (.ref (A_c_BadBounds K)) "__setattr__" = some (some (.builtin "object.__setattr__"))),
  decide (PySem.W.mroIn K (A_c_BadBounds K) (.type "BaseException") = some true),
  decide (PySem.W.typeIn K (.ref (A_c_BadBounds K)) = some (.type "type")),
  decide (PySem.W.keepIn K (.ref (A_c_BadBounds K)) = true),
  decide (PySem.W.findIn K (.ref (A_c_BadBounds K)) "index" = some none),
  decide (PySem.W.findIn K (.ref (A_c_BadBounds K)) "__getattribute__" = some (some (.builtin "BaseException.__getattribute__"))),
  decide (PySem.W.findIn K (.ref (A_c_BadBounds K)) "__getattr__" = some none),
  decide (PySem.W.hasDictIn K (A_c_BadBounds K) = true),
  decide (PySem.W.isClsIn K (A_c_BadBounds K) = true),
  decide (PySem.W.mroIn K (A_c_BadBounds K) (.ref (A_c_BadBounds K)) = some true),
  decide (PySem.W.findIn K (.ref (A_c_BadBounds K)) "__class__" = some (some (.builtin "object.__class__"))),
  decide (PySem.W.mroIn K (A_c_BadBounds K) (.type "object") = some true),
  excB K (A_c_BadFloor K) (A_c_FloorError K) [.type "ValueError", .type "Exception", .type "BaseException", .type "object"] "ValueError.__new__",
  decide (PySem.W.findIn K (.ref (A_c_BadFloor K)) "__setattr__" = some (some (.builtin "object.__setattr__"))),
  decide (PySem.W.mroIn K (A_c_BadFloor K) (.type "BaseException") = some true),
  decide (PySem.W.typeIn K (.ref (A_c_BadFloor K)) = some (.type "type")),
  decide (PySem.W.keepIn K (.ref (A_c_BadFloor K)) = true),
  decide (PySem.W.findIn K (.ref (A_c_BadFloor K)) "floor" = some none),
  decide (PySem.W.findIn K (.ref (A_c_BadFloor K)) "__getattribute__" = some (some (.builtin "BaseException.__getattribute__"))),
  decide (PySem.W.findIn K (.ref (A_c_BadFloor K)) "__getattr__" = some none),
  decide (PySem.W.hasDictIn K (A_c_BadFloor K) = true),
  decide (PySem.W.isClsIn K (A_c_BadFloor K) = true),
  decide (PySem.W.mroIn K (A_c_BadFloor K) (.ref (A_c_BadFloor K)) = some true),
  decide (PySem.W.findIn K (.ref (A_c_BadFloor K)) "__class__" = some (some (.builtin "object.__class__"))),
  decide (PySem.W.mroIn K (A_c_BadFloor K) (.type "object") = some true),
  decide (PySem.W.mroIn K (A_c_BadSize K) (.ref (A_c_BadFloor K)) = some false),
  decide (PySem.W.mroIn K (A_c_BadFloor K) (.ref (A_c_BadSize K)) = some false),
  decide (PySem.W.isClsIn K (A_c_FloorError K) = true),
  decide (PySem.W.typeIn K (.ref (A_c_FloorError K)) = some (.type "type")),
  decide (PySem.W.mroIn K (A_c_BadSize K) (.ref (A_c_FloorError K)) = some true),
  decide (PySem.W.mroIn K (A_c_BadSize K) (.type "ValueError") = some true),
  decide (PySem.W.mroIn K (A_c_BadFloor K) (.ref (A_c_FloorError K)) = some true),
  isR (PySem.W.nsIn K mainGlobals "is_integral"),
  decide (PySem.W.codeIn K (fdK K (A_f_is_integral K)).code "is_integral" = true),
  decide (PySem.W.keepIn K (.ref (A_f_is_integral K)) = true),
  isR (PySem.W.findIn K (.ref (A_c_BadPoint K)) "__init__"),
  decide (PySem.W.typeIn K (.ref (A_f_BadPoint_init K)) = some (.type "function")),
  decide (PySem.W.codeIn K (fdK K (A_f_BadPoint_init K)).code "BadPoint.__init__" = true),
  decide (PySem.W.keepIn K (.ref (A_f_BadPoint_init K)) = true),
  isR (PySem.W.findIn K (.ref (A_c_BadCorner K)) "__init__"),
  decide (PySem.W.typeIn K (.ref (A_f_BadCorner_init K)) = some (.type "function")),
  decide (PySem.W.codeIn K (fdK K (A_f_BadCorner_init K)).code "BadCorner.__init__" = true),
  decide (PySem.W.keepIn K (.ref (A_f_BadCorner_init K)) = true),
  isR (PySem.W.findIn K (.ref (A_c_Barred K)) "__init__"),
  decide (PySem.W.typeIn K (.ref (A_f_Barred_init K)) = some (.type "function")),
  decide (PySem.W.codeIn K (fdK K (A_f_Barred_init K)).code "Barred.__init__" = true),
  decide (PySem.W.keepIn K (.ref (A_f_Barred_init K)) = true),
  isR (PySem.W.findIn K (.ref (A_c_BadSize K)) "__init__"),
  decide (PySem.W.typeIn K (.ref (A_f_BadSize_init K)) = some (.type "function")),
  decide (PySem.W.codeIn K (fdK K (A_f_BadSize_init K)).code "BadSize.__init__" = true),
  decide (PySem.W.keepIn K (.ref (A_f_BadSize_init K)) = true),
  isR (PySem.W.findIn K (.ref (A_c_BadBounds K)) "__init__"),
  decide (PySem.W.typeIn K (.ref (A_f_BadBounds_init K)) = some (.type "function")),
  decide (PySem.W.codeIn K (fdK K (A_f_BadBounds_init K)).code "BadBounds.__init__" = true),
  decide (PySem.W.keepIn K (.ref (A_f_BadBounds_init K)) = true),
  isR (PySem.W.findIn K (.ref (A_c_BadFloor K)) "__init__"),
  decide (PySem.W.typeIn K (.ref (A_f_BadFloor_init K)) = some (.type "function"))]
def bs2 (K : PySem.W.Frag) : List Bool := [
  decide (PySem.W.codeIn K (fdK K (A_f_BadFloor_init K)).code "BadFloor.__init__" = true),
  decide (PySem.W.keepIn K (.ref (A_f_BadFloor_init K)) = true),
  isR (PySem.W.findIn K (.ref (A_c_BadNumber K)) "__init__"),
  decide (PySem.W.typeIn K (.ref (A_f_BadNumber_init K)) = some (.type "function")),
  decide (PySem.W.codeIn K (fdK K (A_f_BadNumber_init K)).code "BadNumber.__init__" = true),
  decide (PySem.W.keepIn K (.ref (A_f_BadNumber_init K)) = true),
  isR (PySem.W.findIn K (.ref (A_c_Root K)) "__init__"),
  decide (PySem.W.isFn K (.ref (A_f_Root_init K)) = true),
  decide (PySem.W.makesIn K (A_c_Root K) = true),
  decide (PySem.W.keepIn K (.ref (A_c_Root K)) = true),
  decide (PySem.W.codeIn K (fdK K (A_f_Root_init K)).code "Root.__init__" = true),
  decide (PySem.W.keepIn K (.ref (A_f_Root_init K)) = true),
  isR (PySem.W.findIn K (.ref (A_c_Root K)) "__eq__"),
  decide (PySem.W.isFn K (.ref (A_f_Root_eq K)) = true),
  decide (PySem.W.codeIn K (fdK K (A_f_Root_eq K)).code "Root.__eq__" = true),
  decide (PySem.W.keepIn K (.ref (A_f_Root_eq K)) = true),
  isR (PySem.W.findIn K (.ref (A_c_Root K)) "__neg__"),
  decide (PySem.W.isFn K (.ref (A_f_Root_neg K)) = true),
  decide (PySem.W.codeIn K (fdK K (A_f_Root_neg K)).code "Root.__neg__" = true),
  decide (PySem.W.keepIn K (.ref (A_f_Root_neg K)) = true),
  isR (PySem.W.nsIn K mainGlobals "is_number"),
  decide (PySem.W.codeIn K (fdK K (A_f_is_number K)).code "is_number" = true),
  decide (PySem.W.keepIn K (.ref (A_f_is_number K)) = true),
  isR (PySem.W.nsIn K mainGlobals "as_root"),
  decide (PySem.W.codeIn K (fdK K (A_f_as_root K)).code "as_root" = true),
  decide (PySem.W.keepIn K (.ref (A_f_as_root K)) = true),
  isR (PySem.W.nsIn K mainGlobals "surd_sign"),
  decide (PySem.W.codeIn K (fdK K (A_f_surd_sign K)).code "surd_sign" = true),
  decide (PySem.W.keepIn K (.ref (A_f_surd_sign K)) = true),
  isR (PySem.W.findIn K (.ref (A_c_Root K)) "__add__"),
  decide (PySem.W.isFn K (.ref (A_f_Root_add K)) = true),
  decide (PySem.W.codeIn K (fdK K (A_f_Root_add K)).code "Root.__add__" = true),
  decide (PySem.W.keepIn K (.ref (A_f_Root_add K)) = true),
  isR (PySem.W.findIn K (.ref (A_c_Root K)) "__sub__"),
  decide (PySem.W.isFn K (.ref (A_f_Root_sub K)) = true),
  decide (PySem.W.codeIn K (fdK K (A_f_Root_sub K)).code "Root.__sub__" = true),
  decide (PySem.W.keepIn K (.ref (A_f_Root_sub K)) = true),
  isR (PySem.W.findIn K (.ref (A_c_Root K)) "__mul__"),
  decide (PySem.W.isFn K (.ref (A_f_Root_mul K)) = true),
  decide (PySem.W.codeIn K (fdK K (A_f_Root_mul K)).code "Root.__mul__" = true),
  decide (PySem.W.keepIn K (.ref (A_f_Root_mul K)) = true),
  isR (PySem.W.findIn K (.ref (A_c_Root K)) "__radd__"),
  decide (PySem.W.isFn K (.ref (A_f_Root_radd K)) = true),
  decide (PySem.W.codeIn K (fdK K (A_f_Root_radd K)).code "Root.__radd__" = true),
  decide (PySem.W.keepIn K (.ref (A_f_Root_radd K)) = true),
  isR (PySem.W.findIn K (.ref (A_c_Root K)) "__rmul__"),
  decide (PySem.W.isFn K (.ref (A_f_Root_rmul K)) = true),
  decide (PySem.W.codeIn K (fdK K (A_f_Root_rmul K)).code "Root.__rmul__" = true),
  decide (PySem.W.keepIn K (.ref (A_f_Root_rmul K)) = true),
  isR (PySem.W.findIn K (.ref (A_c_Root K)) "__rsub__"),
  decide (PySem.W.isFn K (.ref (A_f_Root_rsub K)) = true),
  decide (PySem.W.codeIn K (fdK K (A_f_Root_rsub K)).code "Root.__rsub__" = true),
  decide (PySem.W.keepIn K (.ref (A_f_Root_rsub K)) = true),
  isR (PySem.W.findIn K (.ref (A_c_Root K)) "over"),
  decide (PySem.W.isFn K (.ref (A_f_Root_over K)) = true),
  decide (PySem.W.codeIn K (fdK K (A_f_Root_over K)).code "Root.over" = true),
  decide (PySem.W.keepIn K (.ref (A_f_Root_over K)) = true),
  isR (PySem.W.findIn K (.ref (A_c_Root K)) "less"),
  decide (PySem.W.isFn K (.ref (A_f_Root_less K)) = true),
  decide (PySem.W.codeIn K (fdK K (A_f_Root_less K)).code "Root.less" = true),
  decide (PySem.W.keepIn K (.ref (A_f_Root_less K)) = true),
  isR (PySem.W.findIn K (.ref (A_c_Root K)) "sign"),
  decide (PySem.W.isFn K (.ref (A_f_Root_sign K)) = true),
  decide (PySem.W.codeIn K (fdK K (A_f_Root_sign K)).code "Root.sign" = true),
  decide (PySem.W.keepIn K (.ref (A_f_Root_sign K)) = true),
  isR (PySem.W.nsIn K mainGlobals "is_corner"),
  decide (PySem.W.codeIn K (fdK K (A_f_is_corner K)).code "is_corner" = true),
  decide (PySem.W.keepIn K (.ref (A_f_is_corner K)) = true),
  isR (PySem.W.nsIn K mainGlobals "check_corner"),
  decide (PySem.W.codeIn K (fdK K (A_f_check_corner K)).code "check_corner" = true),
  decide (PySem.W.keepIn K (.ref (A_f_check_corner K)) = true),
  isR (PySem.W.nsIn K mainGlobals "step"),
  decide (PySem.W.codeIn K (fdK K (A_f_step K)).code "step" = true),
  decide (PySem.W.keepIn K (.ref (A_f_step K)) = true),
  isR (PySem.W.nsIn K mainGlobals "is_point"),
  decide (PySem.W.codeIn K (fdK K (A_f_is_point K)).code "is_point" = true),
  decide (PySem.W.keepIn K (.ref (A_f_is_point K)) = true),
  isR (PySem.W.nsIn K mainGlobals "as_roots"),
  decide (PySem.W.codeIn K (fdK K (A_f_as_roots K)).code "as_roots" = true),
  decide (PySem.W.keepIn K (.ref (A_f_as_roots K)) = true),
  isR (PySem.W.nsIn K mainGlobals "check_point"),
  decide (PySem.W.codeIn K (fdK K (A_f_check_point K)).code "check_point" = true),
  decide (PySem.W.keepIn K (.ref (A_f_check_point K)) = true),
  isR (PySem.W.nsIn K mainGlobals "is_half"),
  decide (PySem.W.codeIn K (fdK K (A_f_is_half K)).code "is_half" = true),
  decide (PySem.W.keepIn K (.ref (A_f_is_half K)) = true),
  isR (PySem.W.nsIn K mainGlobals "bars_evenly"),
  decide (PySem.W.codeIn K (fdK K (A_f_bars_evenly K)).code "bars_evenly" = true),
  decide (PySem.W.keepIn K (.ref (A_f_bars_evenly K)) = true),
  isR (PySem.W.nsIn K mainGlobals "bars_oddly"),
  decide (PySem.W.codeIn K (fdK K (A_f_bars_oddly K)).code "bars_oddly" = true),
  decide (PySem.W.keepIn K (.ref (A_f_bars_oddly K)) = true),
  isR (PySem.W.nsIn K mainGlobals "barred"),
  decide (PySem.W.codeIn K (fdK K (A_f_barred K)).code "barred" = true),
  decide (PySem.W.keepIn K (.ref (A_f_barred K)) = true),
  isR (PySem.W.nsIn K mainGlobals "gauge_of"),
  decide (PySem.W.codeIn K (fdK K (A_f_gauge_of K)).code "gauge_of" = true),
  decide (PySem.W.keepIn K (.ref (A_f_gauge_of K)) = true),
  isR (PySem.W.nsIn K mainGlobals "beside"),
  decide (PySem.W.codeIn K (fdK K (A_f_beside K)).code "beside" = true)]
def bs3 (K : PySem.W.Frag) : List Bool := [
  decide (PySem.W.keepIn K (.ref (A_f_beside K)) = true),
  isR (PySem.W.nsIn K mainGlobals "in_window"),
  decide (PySem.W.codeIn K (fdK K (A_f_in_window K)).code "in_window" = true),
  decide (PySem.W.keepIn K (.ref (A_f_in_window K)) = true),
  isR (PySem.W.findIn K (.ref (A_c_Floor K)) "__init__"),
  decide (PySem.W.isFn K (.ref (A_f_Floor_init K)) = true),
  decide (PySem.W.makesIn K (A_c_Floor K) = true),
  decide (PySem.W.keepIn K (.ref (A_c_Floor K)) = true),
  decide (PySem.W.codeIn K (fdK K (A_f_Floor_init K)).code "Floor.__init__" = true),
  decide (PySem.W.keepIn K (.ref (A_f_Floor_init K)) = true),
  isR (PySem.W.findIn K (.ref (A_c_Floor K)) "has_corner"),
  decide (PySem.W.isFn K (.ref (A_f_Floor_has_corner K)) = true),
  decide (PySem.W.codeIn K (fdK K (A_f_Floor_has_corner K)).code "Floor.has_corner" = true),
  decide (PySem.W.keepIn K (.ref (A_f_Floor_has_corner K)) = true),
  isR (PySem.W.findIn K (.ref (A_c_Floor K)) "__eq__"),
  decide (PySem.W.isFn K (.ref (A_f_Floor_eq K)) = true),
  decide (PySem.W.codeIn K (fdK K (A_f_Floor_eq K)).code "Floor.__eq__" = true),
  decide (PySem.W.keepIn K (.ref (A_f_Floor_eq K)) = true),
  isR (PySem.W.nsIn K mainGlobals "is_bound"),
  decide (PySem.W.codeIn K (fdK K (A_f_is_bound K)).code "is_bound" = true),
  decide (PySem.W.keepIn K (.ref (A_f_is_bound K)) = true),
  isR (PySem.W.nsIn K mainGlobals "check_bounds"),
  decide (PySem.W.codeIn K (fdK K (A_f_check_bounds K)).code "check_bounds" = true),
  decide (PySem.W.keepIn K (.ref (A_f_check_bounds K)) = true),
  isR (PySem.W.nsIn K mainGlobals "toward"),
  decide (PySem.W.codeIn K (fdK K (A_f_toward K)).code "toward" = true),
  decide (PySem.W.keepIn K (.ref (A_f_toward K)) = true),
  isR (PySem.W.nsIn K mainGlobals "least_indexes"),
  decide (PySem.W.codeIn K (fdK K (A_f_least_indexes K)).code "least_indexes" = true),
  decide (PySem.W.keepIn K (.ref (A_f_least_indexes K)) = true),
  isR (PySem.W.nsIn K mainGlobals "least_numbers"),
  decide (PySem.W.codeIn K (fdK K (A_f_least_numbers K)).code "least_numbers" = true),
  decide (PySem.W.keepIn K (.ref (A_f_least_numbers K)) = true),
  isR (PySem.W.nsIn K mainGlobals "over_common"),
  decide (PySem.W.codeIn K (fdK K (A_f_over_common K)).code "over_common" = true),
  decide (PySem.W.keepIn K (.ref (A_f_over_common K)) = true),
  isR (PySem.W.nsIn K mainGlobals "pair_sum"),
  decide (PySem.W.codeIn K (fdK K (A_f_pair_sum K)).code "pair_sum" = true),
  decide (PySem.W.keepIn K (.ref (A_f_pair_sum K)) = true),
  isR (PySem.W.nsIn K mainGlobals "presses_on"),
  decide (PySem.W.codeIn K (fdK K (A_f_presses_on K)).code "presses_on" = true),
  decide (PySem.W.keepIn K (.ref (A_f_presses_on K)) = true),
  isR (PySem.W.nsIn K mainGlobals "barring_parts"),
  decide (PySem.W.codeIn K (fdK K (A_f_barring_parts K)).code "barring_parts" = true),
  decide (PySem.W.keepIn K (.ref (A_f_barring_parts K)) = true),
  isR (PySem.W.nsIn K mainGlobals "least_pair"),
  decide (PySem.W.codeIn K (fdK K (A_f_least_pair K)).code "least_pair" = true),
  decide (PySem.W.keepIn K (.ref (A_f_least_pair K)) = true),
  isR (PySem.W.nsIn K mainGlobals "tightened"),
  decide (PySem.W.codeIn K (fdK K (A_f_tightened K)).code "tightened" = true),
  decide (PySem.W.keepIn K (.ref (A_f_tightened K)) = true),
  isR (PySem.W.findIn K (.ref (A_c_Piece K)) "__init__"),
  decide (PySem.W.isFn K (.ref (A_f_Piece_init K)) = true),
  decide (PySem.W.makesIn K (A_c_Piece K) = true),
  decide (PySem.W.keepIn K (.ref (A_c_Piece K)) = true),
  decide (PySem.W.codeIn K (fdK K (A_f_Piece_init K)).code "Piece.__init__" = true),
  decide (PySem.W.keepIn K (.ref (A_f_Piece_init K)) = true),
  isR (PySem.W.findIn K (.ref (A_c_Piece K)) "is_empty"),
  decide (PySem.W.isFn K (.ref (A_f_Piece_is_empty K)) = true),
  decide (PySem.W.codeIn K (fdK K (A_f_Piece_is_empty K)).code "Piece.is_empty" = true),
  decide (PySem.W.keepIn K (.ref (A_f_Piece_is_empty K)) = true),
  isR (PySem.W.nsIn K mainGlobals "rows_of"),
  decide (PySem.W.codeIn K (fdK K (A_f_rows_of K)).code "rows_of" = true),
  decide (PySem.W.keepIn K (.ref (A_f_rows_of K)) = true),
  isR (PySem.W.findIn K (.ref (A_c_Piece K)) "has"),
  decide (PySem.W.isFn K (.ref (A_f_Piece_has K)) = true),
  decide (PySem.W.codeIn K (fdK K (A_f_Piece_has K)).code "Piece.has" = true),
  decide (PySem.W.keepIn K (.ref (A_f_Piece_has K)) = true),
  isR (PySem.W.nsIn K mainGlobals "_law_dice"),
  decide (PySem.W.codeIn K (fdK K (A_f__law_dice K)).code "_law_dice" = true),
  decide (PySem.W.keepIn K (.ref (A_f__law_dice K)) = true),
  isR (PySem.W.nsIn K mainGlobals "_law_draw"),
  decide (PySem.W.codeIn K (fdK K (A_f__law_draw K)).code "_law_draw" = true),
  decide (PySem.W.keepIn K (.ref (A_f__law_draw K)) = true),
  isR (PySem.W.nsIn K mainGlobals "_law_wide"),
  decide (PySem.W.codeIn K (fdK K (A_f__law_wide K)).code "_law_wide" = true),
  decide (PySem.W.keepIn K (.ref (A_f__law_wide K)) = true),
  isR (PySem.W.nsIn K mainGlobals "check_floor"),
  decide (PySem.W.codeIn K (fdK K (A_f_check_floor K)).code "check_floor" = true),
  decide (PySem.W.keepIn K (.ref (A_f_check_floor K)) = true),
  isR (PySem.W.nsIn K mainGlobals "check_many"),
  decide (PySem.W.codeIn K (fdK K (A_f_check_many K)).code "check_many" = true),
  decide (PySem.W.keepIn K (.ref (A_f_check_many K)) = true),
  isR (PySem.W.nsIn K mainGlobals "factor"),
  decide (PySem.W.codeIn K (fdK K (A_f_factor K)).code "factor" = true),
  decide (PySem.W.keepIn K (.ref (A_f_factor K)) = true),
  isR (PySem.W.nsIn K mainGlobals "scaled"),
  decide (PySem.W.codeIn K (fdK K (A_f_scaled K)).code "scaled" = true),
  decide (PySem.W.keepIn K (.ref (A_f_scaled K)) = true),
  isR (PySem.W.nsIn K mainGlobals "led"),
  decide (PySem.W.codeIn K (fdK K (A_f_led K)).code "led" = true),
  decide (PySem.W.keepIn K (.ref (A_f_led K)) = true),
  isR (PySem.W.nsIn K mainGlobals "greater_floor"),
  decide (PySem.W.codeIn K (fdK K (A_f_greater_floor K)).code "greater_floor" = true),
  decide (PySem.W.keepIn K (.ref (A_f_greater_floor K)) = true),
  isR (PySem.W.nsIn K mainGlobals "lesser_floor"),
  decide (PySem.W.codeIn K (fdK K (A_f_lesser_floor K)).code "lesser_floor" = true),
  decide (PySem.W.keepIn K (.ref (A_f_lesser_floor K)) = true),
  isR (PySem.W.nsIn K mainGlobals "led_up"),
  decide (PySem.W.codeIn K (fdK K (A_f_led_up K)).code "led_up" = true)]
def bs4 (K : PySem.W.Frag) : List Bool := [
  decide (PySem.W.keepIn K (.ref (A_f_led_up K)) = true),
  isR (PySem.W.nsIn K mainGlobals "_law_is_half"),
  decide (PySem.W.codeIn K (fdK K (A_f__law_is_half K)).code "_law_is_half" = true),
  decide (PySem.W.keepIn K (.ref (A_f__law_is_half K)) = true),
  isR (PySem.W.nsIn K mainGlobals "_law_is_let"),
  decide (PySem.W.codeIn K (fdK K (A_f__law_is_let K)).code "_law_is_let" = true),
  decide (PySem.W.keepIn K (.ref (A_f__law_is_let K)) = true),
  isR (PySem.W.nsIn K mainGlobals "_law_let"),
  decide (PySem.W.codeIn K (fdK K (A_f__law_let K)).code "_law_let" = true),
  decide (PySem.W.keepIn K (.ref (A_f__law_let K)) = true),
  isR (PySem.W.nsIn K mainGlobals "_law_shift"),
  decide (PySem.W.codeIn K (fdK K (A_f__law_shift K)).code "_law_shift" = true),
  decide (PySem.W.keepIn K (.ref (A_f__law_shift K)) = true),
  isR (PySem.W.nsIn K mainGlobals "_law_led"),
  decide (PySem.W.codeIn K (fdK K (A_f__law_led K)).code "_law_led" = true),
  decide (PySem.W.keepIn K (.ref (A_f__law_led K)) = true),
  isR (PySem.W.nsIn K mainGlobals "_law_number"),
  decide (PySem.W.codeIn K (fdK K (A_f__law_number K)).code "_law_number" = true),
  decide (PySem.W.keepIn K (.ref (A_f__law_number K)) = true),
  isR (PySem.W.nsIn K mainGlobals "_law_point"),
  decide (PySem.W.codeIn K (fdK K (A_f__law_point K)).code "_law_point" = true),
  decide (PySem.W.keepIn K (.ref (A_f__law_point K)) = true),
  isR (PySem.W.nsIn K mainGlobals "_law_is_integer"),
  decide (PySem.W.codeIn K (fdK K (A_f__law_is_integer K)).code "_law_is_integer" = true),
  decide (PySem.W.keepIn K (.ref (A_f__law_is_integer K)) = true),
  isR (PySem.W.nsIn K mainGlobals "_law_is_root"),
  decide (PySem.W.codeIn K (fdK K (A_f__law_is_root K)).code "_law_is_root" = true),
  decide (PySem.W.keepIn K (.ref (A_f__law_is_root K)) = true),
  isR (PySem.W.nsIn K mainGlobals "_law_is_floor"),
  decide (PySem.W.codeIn K (fdK K (A_f__law_is_floor K)).code "_law_is_floor" = true),
  decide (PySem.W.keepIn K (.ref (A_f__law_is_floor K)) = true),
  isR (PySem.W.findIn K (.ref (A_c_Piece K)) "__eq__"),
  decide (PySem.W.isFn K (.ref (A_f_Piece_eq K)) = true),
  decide (PySem.W.codeIn K (fdK K (A_f_Piece_eq K)).code "Piece.__eq__" = true),
  decide (PySem.W.keepIn K (.ref (A_f_Piece_eq K)) = true),
  isR (PySem.W.nsIn K mainGlobals "_law_no_floor"),
  decide (PySem.W.codeIn K (fdK K (A_f__law_no_floor K)).code "_law_no_floor" = true),
  decide (PySem.W.keepIn K (.ref (A_f__law_no_floor K)) = true),
  isR (PySem.W.nsIn K mainGlobals "_law_no_size"),
  decide (PySem.W.codeIn K (fdK K (A_f__law_no_size K)).code "_law_no_size" = true),
  decide (PySem.W.keepIn K (.ref (A_f__law_no_size K)) = true),
  isR (PySem.W.nsIn K mainGlobals "_law_told"),
  decide (PySem.W.codeIn K (fdK K (A_f__law_told K)).code "_law_told" = true),
  decide (PySem.W.keepIn K (.ref (A_f__law_told K)) = true),
  isR (PySem.W.nsIn K mainGlobals "_law_both_refused"),
  decide (PySem.W.codeIn K (fdK K (A_f__law_both_refused K)).code "_law_both_refused" = true),
  decide (PySem.W.keepIn K (.ref (A_f__law_both_refused K)) = true),
  isR (PySem.W.nsIn K mainGlobals "_law_refusals"),
  decide (PySem.W.codeIn K (fdK K (A_f__law_refusals K)).code "_law_refusals" = true),
  decide (PySem.W.keepIn K (.ref (A_f__law_refusals K)) = true),
  isR (PySem.W.nsIn K mainGlobals "law"),
  decide (PySem.W.codeIn K (fdK K (A_f_law K)).code "law" = true),
  decide (PySem.W.keepIn K (.ref (A_f_law K)) = true)]
def fs0 (K : PySem.W.Frag) : List FnT := [
  fnT K (A_f_is_integral K),
  fnT K (A_f_BadPoint_init K),
  fnT K (A_f_BadCorner_init K),
  fnT K (A_f_Barred_init K),
  fnT K (A_f_BadSize_init K),
  fnT K (A_f_BadBounds_init K),
  fnT K (A_f_BadFloor_init K),
  fnT K (A_f_BadNumber_init K),
  fnT K (A_f_Root_init K),
  fnT K (A_f_Root_eq K),
  fnT K (A_f_Root_neg K),
  fnT K (A_f_is_number K),
  fnT K (A_f_as_root K),
  fnT K (A_f_surd_sign K),
  fnT K (A_f_Root_add K),
  fnT K (A_f_Root_sub K),
  fnT K (A_f_Root_mul K),
  fnT K (A_f_Root_radd K),
  fnT K (A_f_Root_rmul K),
  fnT K (A_f_Root_rsub K),
  fnT K (A_f_Root_over K),
  fnT K (A_f_Root_less K),
  fnT K (A_f_Root_sign K),
  fnT K (A_f_is_corner K),
  fnT K (A_f_check_corner K),
  fnT K (A_f_step K),
  fnT K (A_f_is_point K),
  fnT K (A_f_as_roots K),
  fnT K (A_f_check_point K),
  fnT K (A_f_is_half K),
  fnT K (A_f_bars_evenly K),
  fnT K (A_f_bars_oddly K),
  fnT K (A_f_barred K),
  fnT K (A_f_gauge_of K),
  fnT K (A_f_beside K),
  fnT K (A_f_in_window K),
  fnT K (A_f_Floor_init K),
  fnT K (A_f_Floor_has_corner K),
  fnT K (A_f_Floor_eq K),
  fnT K (A_f_is_bound K)]
def ws0 : List FnT := [
  fnE "is_integral" "is_integral" Z_s_is_integral,
  fnE "__init__" "BadPoint.__init__" Z_s_BadPoint_init,
  fnE "__init__" "BadCorner.__init__" Z_s_BadCorner_init,
  fnE "__init__" "Barred.__init__" Z_s_Barred_init,
  fnE "__init__" "BadSize.__init__" Z_s_BadSize_init,
  fnE "__init__" "BadBounds.__init__" Z_s_BadBounds_init,
  fnE "__init__" "BadFloor.__init__" Z_s_BadFloor_init,
  fnE "__init__" "BadNumber.__init__" Z_s_BadNumber_init,
  fnE "__init__" "Root.__init__" Z_s_Root_init,
  fnE "__eq__" "Root.__eq__" Z_s_Root_eq,
  fnE "__neg__" "Root.__neg__" Z_s_Root_neg,
  fnE "is_number" "is_number" Z_s_is_number,
  fnE "as_root" "as_root" Z_s_as_root,
  fnE "surd_sign" "surd_sign" Z_s_surd_sign,
  fnE "__add__" "Root.__add__" Z_s_Root_add,
  fnE "__sub__" "Root.__sub__" Z_s_Root_sub,
  fnE "__mul__" "Root.__mul__" Z_s_Root_mul,
  fnE "__radd__" "Root.__radd__" Z_s_Root_radd,
  fnE "__rmul__" "Root.__rmul__" Z_s_Root_rmul,
  fnE "__rsub__" "Root.__rsub__" Z_s_Root_rsub,
  fnE "over" "Root.over" Z_s_Root_over,
  fnE "less" "Root.less" Z_s_Root_less,
  fnE "sign" "Root.sign" Z_s_Root_sign,
  fnE "is_corner" "is_corner" Z_s_is_corner,
  fnE "check_corner" "check_corner" Z_s_check_corner,
  fnE "step" "step" Z_s_step,
  fnE "is_point" "is_point" Z_s_is_point,
  fnE "as_roots" "as_roots" Z_s_as_roots,
  fnE "check_point" "check_point" Z_s_check_point,
  fnE "is_half" "is_half" Z_s_is_half,
  fnE "bars_evenly" "bars_evenly" Z_s_bars_evenly,
  fnE "bars_oddly" "bars_oddly" Z_s_bars_oddly,
  fnE "barred" "barred" Z_s_barred,
  fnE "gauge_of" "gauge_of" Z_s_gauge_of,
  fnE "beside" "beside" Z_s_beside,
  fnE "in_window" "in_window" Z_s_in_window,
  fnE "__init__" "Floor.__init__" Z_s_Floor_init,
  fnE "has_corner" "Floor.has_corner" Z_s_Floor_has_corner,
  fnE "__eq__" "Floor.__eq__" Z_s_Floor_eq,
  fnE "is_bound" "is_bound" Z_s_is_bound]
def fs1 (K : PySem.W.Frag) : List FnT := [
  fnT K (A_f_check_bounds K),
  fnT K (A_f_toward K),
  fnT K (A_f_least_indexes K),
  fnT K (A_f_least_numbers K),
  fnT K (A_f_over_common K),
  fnT K (A_f_pair_sum K),
  fnT K (A_f_presses_on K),
  fnT K (A_f_barring_parts K),
  fnT K (A_f_least_pair K),
  fnT K (A_f_tightened K),
  fnT K (A_f_Piece_init K),
  fnT K (A_f_Piece_is_empty K),
  fnT K (A_f_rows_of K),
  fnT K (A_f_Piece_has K),
  fnT K (A_f__law_dice K),
  fnT K (A_f__law_draw K),
  fnT K (A_f__law_wide K),
  fnT K (A_f_check_floor K),
  fnT K (A_f_check_many K),
  fnT K (A_f_factor K),
  fnT K (A_f_scaled K),
  fnT K (A_f_led K),
  fnT K (A_f_greater_floor K),
  fnT K (A_f_lesser_floor K),
  fnT K (A_f_led_up K),
  fnT K (A_f__law_is_half K),
  fnT K (A_f__law_is_let K),
  fnT K (A_f__law_let K),
  fnT K (A_f__law_shift K),
  fnT K (A_f__law_led K),
  fnT K (A_f__law_number K),
  fnT K (A_f__law_point K),
  fnT K (A_f__law_is_integer K),
  fnT K (A_f__law_is_root K),
  fnT K (A_f__law_is_floor K),
  fnT K (A_f_Piece_eq K),
  fnT K (A_f__law_no_floor K),
  fnT K (A_f__law_no_size K),
  fnT K (A_f__law_told K),
  fnT K (A_f__law_both_refused K)]
def ws1 : List FnT := [
  fnE "check_bounds" "check_bounds" Z_s_check_bounds,
  fnE "toward" "toward" Z_s_toward,
  fnE "least_indexes" "least_indexes" Z_s_least_indexes,
  fnE "least_numbers" "least_numbers" Z_s_least_numbers,
  fnE "over_common" "over_common" Z_s_over_common,
  fnE "pair_sum" "pair_sum" Z_s_pair_sum,
  fnE "presses_on" "presses_on" Z_s_presses_on,
  fnE "barring_parts" "barring_parts" Z_s_barring_parts,
  fnE "least_pair" "least_pair" Z_s_least_pair,
  fnE "tightened" "tightened" Z_s_tightened,
  fnE "__init__" "Piece.__init__" Z_s_Piece_init,
  fnE "is_empty" "Piece.is_empty" Z_s_Piece_is_empty,
  fnE "rows_of" "rows_of" Z_s_rows_of,
  fnE "has" "Piece.has" Z_s_Piece_has,
  fnE "_law_dice" "_law_dice" Z_s__law_dice,
  fnE "_law_draw" "_law_draw" Z_s__law_draw,
  fnE "_law_wide" "_law_wide" Z_s__law_wide,
  fnE "check_floor" "check_floor" Z_s_check_floor,
  fnE "check_many" "check_many" Z_s_check_many,
  fnE "factor" "factor" Z_s_factor,
  fnE "scaled" "scaled" Z_s_scaled,
  fnE "led" "led" Z_s_led,
  fnE "greater_floor" "greater_floor" Z_s_greater_floor,
  fnE "lesser_floor" "lesser_floor" Z_s_lesser_floor,
  fnE "led_up" "led_up" Z_s_led_up,
  fnE "_law_is_half" "_law_is_half" Z_s__law_is_half,
  fnE "_law_is_let" "_law_is_let" Z_s__law_is_let,
  fnE "_law_let" "_law_let" Z_s__law_let,
  fnE "_law_shift" "_law_shift" Z_s__law_shift,
  fnE "_law_led" "_law_led" Z_s__law_led,
  fnE "_law_number" "_law_number" Z_s__law_number,
  fnE "_law_point" "_law_point" Z_s__law_point,
  fnE "_law_is_integer" "_law_is_integer" Z_s__law_is_integer,
  fnE "_law_is_root" "_law_is_root" Z_s__law_is_root,
  fnE "_law_is_floor" "_law_is_floor" Z_s__law_is_floor,
  fnE "__eq__" "Piece.__eq__" Z_s_Piece_eq,
  fnE "_law_no_floor" "_law_no_floor" Z_s__law_no_floor,
  fnE "_law_no_size" "_law_no_size" Z_s__law_no_size,
  fnE "_law_told" "_law_told" Z_s__law_told,
  fnE "_law_both_refused" "_law_both_refused" Z_s__law_both_refused]
def fs2 (K : PySem.W.Frag) : List FnT := [
  fnT K (A_f__law_refusals K),
  fnT K (A_f_law K)]
def ws2 : List FnT := [
  fnE "_law_refusals" "_law_refusals" Z_s__law_refusals,
  fnE "law" "law" Z_s_law]
def bsK (K : PySem.W.Frag) : List Bool := bs0 K ++ (bs1 K ++ (bs2 K ++ (bs3 K ++ (bs4 K ++ ([])))))
def fsK (K : PySem.W.Frag) : List FnT := fs0 K ++ (fs1 K ++ (fs2 K ++ ([])))
def wsK : List FnT := ws0 ++ (ws1 ++ (ws2 ++ ([])))
theorem run0 (w : World) : HandSHeadRun.RunEqI (PySem.W.OpenLaw.row PySem.Challenge.rw_threetiles_k63_floors_led_up_and_back) (PySem.W.view (PySem.W.OpenLaw.row PySem.Challenge.rw_threetiles_k63_floors_led_up_and_back).prog [98]) (hookF nsK (fun _ => []) (fun _ => []) []) (obF nsK (fun _ => []) (fun _ => [])) 20000 namesK w := by
  unfold HandSHeadRun.RunEqI
  kernel_rfl
theorem runB0 (w : World) : RunB (PySem.W.OpenLaw.row PySem.Challenge.rw_threetiles_k63_floors_led_up_and_back) 20000 w nsK bs0 := by
  unfold RunB
  kernel_rfl
theorem runB1 (w : World) : RunB (PySem.W.OpenLaw.row PySem.Challenge.rw_threetiles_k63_floors_led_up_and_back) 20000 w nsK bs1 := by
  unfold RunB
  kernel_rfl
theorem runB2 (w : World) : RunB (PySem.W.OpenLaw.row PySem.Challenge.rw_threetiles_k63_floors_led_up_and_back) 20000 w nsK bs2 := by
  unfold RunB
  kernel_rfl
theorem runB3 (w : World) : RunB (PySem.W.OpenLaw.row PySem.Challenge.rw_threetiles_k63_floors_led_up_and_back) 20000 w nsK bs3 := by
  unfold RunB
  kernel_rfl
theorem runB4 (w : World) : RunB (PySem.W.OpenLaw.row PySem.Challenge.rw_threetiles_k63_floors_led_up_and_back) 20000 w nsK bs4 := by
  unfold RunB
  kernel_rfl
theorem runF0 (w : World) : RunF (PySem.W.OpenLaw.row PySem.Challenge.rw_threetiles_k63_floors_led_up_and_back) 20000 w nsK fs0 ws0 := by
  unfold RunF
  kernel_rfl
theorem runF1 (w : World) : RunF (PySem.W.OpenLaw.row PySem.Challenge.rw_threetiles_k63_floors_led_up_and_back) 20000 w nsK fs1 ws1 := by
  unfold RunF
  kernel_rfl
theorem runF2 (w : World) : RunF (PySem.W.OpenLaw.row PySem.Challenge.rw_threetiles_k63_floors_led_up_and_back) 20000 w nsK fs2 ws2 := by
  unfold RunF
  kernel_rfl
theorem runH (w : World) : HandSHeadRun.RunEqI (PySem.W.OpenLaw.row PySem.Challenge.rw_threetiles_k63_floors_led_up_and_back) (PySem.W.view (PySem.W.OpenLaw.row PySem.Challenge.rw_threetiles_k63_floors_led_up_and_back).prog [98]) (hookF nsK bsK fsK wsK) (obF nsK bsK fsK) 20000 namesK w :=
  run_f (run_f (run_f (run_b (run_b (run_b (run_b (run_b (run0 w) (runB4 w)) (runB3 w)) (runB2 w)) (runB1 w)) (runB0 w)) (runF2 w)) (runF1 w)) (runF0 w)
end L2.My

/-! W0: what all my proofs share: callees by name (Has), steps that walk a reading (walk_at "w"), wide rules. -/
namespace L2.My
open PySem PySem.Spec PyProof.Rows

/-! ### callees by name -/
section
variable (P : Program) (w : World) (K : PySem.W.Frag) (mg : Str → Option Value) (base : Heap)
/-- a def of the module that keeps a promise -/
def Has (x : Str) (k : Nat) (ps : List Str) (sp : Sp) : Prop :=
  ∃ f fd, FnOk P w K mg base (L2.CX P w) k f fd ps sp ∧ mg x = some (.ref f) ∧ PySem.W.keepIn K (.ref f) = true ∧ Binds K fd ps []
/-- a method -/
def HasM (C : Addr) (m : Str) (k : Nat) (ps : List Str) (sp : Sp) : Prop :=
  ∃ f fd, FnOk P w K mg base (L2.CX P w) k f fd ps sp ∧ Meth K C m f ∧ Binds K fd ps []
/-- a class that is made -/
def HasC (x : Str) (C : Addr) (k : Nat) (ps : List Str) (sp : Sp) : Prop :=
  ∃ f fd, FnOk P w K mg base (L2.CX P w) k f fd ps sp ∧ Mk K C f ∧ mg x = some (.ref C) ∧ Binds K fd ps []
end
section
variable {X : Cx} {x m : Str} {k j : Nat} {ps : List Str} {sp : Sp} {E : St → XK} {e o : Expr} {es : List Expr} {t : TA} {ta : TE} {p pos apos : Pos} {C f : Addr} {fd : FuncData}
/-- nothing is let out -/
theorem pa0 : ∀ σ, PassesAt (L2.CX X.prog X.w) X σ ((fun _ => E0 : St → XK) σ) := fun σ pins H s e s' I h => passL pins σ H s e s' I h
/-- what is wished at the slots -/
theorem paW {W : WX} (tk : Takes X W) : ∀ σ, PassesAt (L2.CX X.prog X.w) X σ (WE W σ) := fun σ => passAt tk σ
/-- what the def wishes of an exception -/
abbrev ED (E : XK) : St → XK := WE (fun cls d _ H => E cls d H)
theorem pe_h (h : Has X.prog X.w X.K X.mg X.base x k ps sp) (hr : Room j X.A) (hx : ∀ σ, PassesAt (L2.CX X.prog X.w) X σ (E σ)) (ha : PA X (e :: es) t) (hj : k ≤ j := by decide) (hg : Gl X x := by rfl) (hdb : (x == ("__debug__" : Str)) = false := by decide)
    (he : starEach (e :: es) X.env = (false, eval e X.env) :: starEach es X.env := by rfl) (hpl : (backTo pos (starEach es X.env)).any (·.1) = false := by rfl) :
    PE X (.Call (.Name x p) (e :: es) [] pos) (tCallS sp E t) := by
  obtain ⟨f, fd, F, hm, hk, hb⟩ := h
  exact pe_callS F (hr.mono hj) hg hm hk hb hx ha hdb he hpl
theorem pe_h0 (h : Has X.prog X.w X.K X.mg X.base x k ps sp) (hr : Room j X.A) (hx : ∀ σ, PassesAt (L2.CX X.prog X.w) X σ (E σ)) (hj : k ≤ j := by decide) (hg : Gl X x := by rfl) (hdb : (x == ("__debug__" : Str)) = false := by decide) :
    PE X (.Call (.Name x p) [] [] pos) (tCallS sp E tNil) := by
  obtain ⟨f, fd, F, hm, hk, hb⟩ := h
  refine ⟨fun pins s σ H Q I hh => ?_⟩
  refine wpAny_Call_Name_kw (ld_glob I hg hm ?_ hdb)
  exact PySem.W.callWith_K0 I.kIn hk (run_fnS (us := []) F (hr.mono hj) hb (hx σ) I .nil hh)
/-- C(..) -/
theorem run_makeS {pins : List (Addr × Obj)} {σ : St} {H : Hp} {s : Shared} {Q : VK} {us : List Value} {vs : List V} (M : Mk X.K C f) (F : FnOk X.prog X.w X.K X.mg X.base (L2.CX X.prog X.w) k f fd ps sp) (hr : Room (k + 1) X.A) (hb : Binds X.K fd ps [])
    (hx : PassesAt (L2.CX X.prog X.w) X σ (E σ)) (I : Inv X pins σ H s) (r : Vals vs us)
    (h : ∀ x dx, H x = none → H dx = none → dx ≠ x → sp (.ref x :: vs) (upd (upd H dx (.own x)) x (.ins C dx [])) (fun v H2 => v = .non ∧ Q (.ref x) H2) (E σ)) :
    wpAny (model X.prog X.w) X.A (call (.ref C) us) (EP X pins σ Q) X.xe s := by
  have hq := h (s.heap.objs.size + 1) s.heap.objs.size (I.hok.fresh (Nat.le_succ _)) (I.hok.fresh (Nat.le_refl _)) (Nat.ne_of_lt (Nat.lt_succ_self _))
  have I2 := Inv.made (C := C) I
  have r2 : Vals (V.ref (s.heap.objs.size + 1) :: vs) (Value.ref (s.heap.objs.size + 1) :: us) := .cons rfl r
  have hl : (Value.ref (s.heap.objs.size + 1) :: us).length = ps.length := by
    have e := r2.length
    rw [F.len _ _ _ _ hq] at e
    exact e.symm
  have bb := hb _ (Value.ref (s.heap.objs.size + 1) :: us) I2.kIn (by rw [List.append_nil]; exact hl)
  rw [List.append_nil] at bb
  refine wpAny_call (make_map (f := f) I.kIn M.makes M.init (beq_iff_eq.mp M.fn) (codeAny_mono (F.run _ X.stack _ _ ⟨Value.ref (s.heap.objs.size + 1) :: us, []⟩ (Value.ref (s.heap.objs.size + 1) :: us) _ _ (E σ) (hr.make C us [])
    (I2.env0.make C us []) bb r2 hq) fun r s' hq' => ?_))
  cases r with
  | error e => exact hx pins _ _ e s' I2 hq'
  | ok fl =>
    cases fl with
    | ret u =>
      obtain ⟨v, H', I3, rv, ev, q3⟩ := I2.after hq'
      subst ev
      exact ⟨rv, ⟨V.ref (s.heap.objs.size + 1), H', I3, rfl, q3⟩⟩
    | next => exact False.elim hq'
    | brk => exact False.elim hq'
    | cont => exact False.elim hq'
def tMakeS (C : Addr) (sp : Sp) (E : St → XK) (t : TA) : TE := fun σ H Q => t σ H fun vs H1 => ∀ x dx, H1 x = none → H1 dx = none → dx ≠ x →
  sp (.ref x :: vs) (upd (upd H1 dx (.own x)) x (.ins C dx [])) (fun v H2 => v = .non ∧ Q (.ref x) H2) (E σ)
theorem pe_hc (h : HasC X.prog X.w X.K X.mg X.base x C k ps sp) (hr : Room j X.A) (hx : ∀ σ, PassesAt (L2.CX X.prog X.w) X σ (E σ)) (ha : PA X (e :: es) t) (hj : k + 1 ≤ j := by decide) (hg : Gl X x := by rfl) (hdb : (x == ("__debug__" : Str)) = false := by decide)
    (he : starEach (e :: es) X.env = (false, eval e X.env) :: starEach es X.env := by rfl) (hpl : (backTo pos (starEach es X.env)).any (·.1) = false := by rfl) :
    PE X (.Call (.Name x p) (e :: es) [] pos) (tMakeS C sp E t) := by
  obtain ⟨f, fd, F, M, hm, hb⟩ := h
  refine ⟨fun pins s σ H Q I h => ?_⟩
  refine wpAny_Call_Name_kw (ld_glob I hg hm ?_ hdb)
  refine PySem.W.callWith_K (h₀ := X.base) I.ok.mod.kin M.kp (thn (ha.run pos pins s σ H _ I h) fun us s1 ⟨vs, H1, I1, r, q⟩ => ⟨I1.kIn, ?_⟩) he hpl
  exact run_makeS M F (hr.mono hj) hb (hx σ) I1 r q
/-- o.m(..) -/
def tMethS (C : Addr) (m : Str) (sp : Sp) (E : St → XK) (ta : TE) (t : TA) : TE := fun σ H Q => ta σ H fun x H1 => ∃ a dx fs, x = .ref a ∧ H1 a = some (.ins C dx fs) ∧ fs.lookup m = none ∧
  t σ H1 fun vs H2 => sp (x :: vs) H2 Q (E σ)
theorem pe_hm {pl : Sem Bool} (h : HasM X.prog X.w X.K X.mg X.base C m k ps sp) (c : Cls X.K C) (hr : Room j X.A) (hx : ∀ σ, PassesAt (L2.CX X.prog X.w) X σ (E σ)) (ho : PE X o ta) (ha : PA X (e :: es) t) (hj : k ≤ j := by decide)
    (hst : starEach (e :: es) X.env = (false, eval e X.env) :: starEach es X.env := by rfl) (hpl : (backTo pos (starEach es X.env)).any (·.1) = false := by rfl)
    (ht : eval (.Call (.Attribute o m apos) (e :: es) [] pos) X.env = (do
      let ov ← eval o X.env
      standAt apos.atName
      let (f, first) ← holding [ov] (getMethod ov m pl)
      callWith pos f first (backTo pos (starEach (e :: es) X.env)) (backToKw pos (keywordEach [] X.env))) := by rfl) :
    PE X (.Call (.Attribute o m apos) (e :: es) [] pos) (tMethS C m sp E ta t) := by
  obtain ⟨f, fd, F, hm, hb⟩ := h
  refine ⟨fun pins s σ H Q I h => ?_⟩
  refine PySem.W.methodCall_KW (pl := pl) (thn (ho.run pins s σ H _ I h) fun u s1 ⟨x, H1, I1, rx, a, dx, fs, ex, ea, l, q⟩ => ?_) ht
  subst ex
  obtain rfl : u = Value.ref a := rx
  refine getmeth_ok I1 ea c hm l ?_
  refine PySem.W.callWith_K (first := [.ref a]) (h₀ := X.base) I.ok.mod.kin hm.kp (thn (ha.run pos pins s1 σ H1 _ I1 q) fun us s2 ⟨vs, H2, I2, r, q2⟩ => ⟨I2.kIn, ?_⟩) hst hpl
  exact run_fnS (us := .ref a :: us) (vs := .ref a :: vs) F (hr.mono hj) hb (hx σ) I2 (.cons rfl r) q2
theorem pe_hm0 {pl : Sem Bool} (h : HasM X.prog X.w X.K X.mg X.base C m k ps sp) (c : Cls X.K C) (hr : Room j X.A) (hx : ∀ σ, PassesAt (L2.CX X.prog X.w) X σ (E σ)) (ho : PE X o ta) (hj : k ≤ j := by decide)
    (ht : eval (.Call (.Attribute o m apos) [] [] pos) X.env = (do
      let ov ← eval o X.env
      standAt apos.atName
      let (f, first) ← holding [ov] (getMethod ov m pl)
      callWith pos f first (backTo pos (starEach [] X.env)) (backToKw pos (keywordEach [] X.env))) := by rfl) :
    PE X (.Call (.Attribute o m apos) [] [] pos) (tMethS C m sp E ta tNil) := by
  obtain ⟨f, fd, F, hm, hb⟩ := h
  refine ⟨fun pins s σ H Q I h => ?_⟩
  refine PySem.W.methodCall_KW (pl := pl) (thn (ho.run pins s σ H _ I h) fun u s1 ⟨x, H1, I1, rx, a, dx, fs, ex, ea, l, q⟩ => ?_) ht
  subst ex
  obtain rfl : u = Value.ref a := rx
  refine getmeth_ok I1 ea c hm l ?_
  exact PySem.W.callWith_K0 (first := [.ref a]) I1.kIn hm.kp (run_fnS (us := [.ref a]) (vs := [.ref a]) F (hr.mono hj) hb (hx σ) I1 (.cons rfl .nil) q)
end

/-! ### numbers of any size -/
/-- // by what is not 0, below 2 ^ 9000 in size -/
def CDivN9 (_ j : Int) : Prop := j ≠ 0 ∧ j.natAbs.log2 < 9000
section
variable {X : Cx}
theorem op_fdivV : OpR X (binaryOp .FloorDiv) (rI CDivN9 fun i j => .int (i.fdiv j)) := opI fun i j _ _ _ _ _ hc q =>
  floordiv_int hc.1 q (.inl (PyProof.noPylong_of_log2 hc.2))
end

/-! ### steps that walk a reading -/
section
variable {σ σ' : St} {H : Hp} {v x y : V} {i j : Int} {n : Nat} {b : Bool} {ta tb te : TE} {t u : TT} {ts us : TS} {r : R2} {D : Ends} {Q : VK} {QB : Bool → Hp → Prop} {QL : List V → Hp → Prop} {tl : TA}
theorem w_var (h : σ[n]? = some (some v)) (q : Q v H) : tVar n σ H Q := ⟨v, h, q⟩
theorem w_c (q : Q v H) : tC v σ H Q := q
theorem w_op (q : ta σ H fun x H1 => tb σ H1 fun y H2 => r x y H2 Q) : tOp r ta tb σ H Q := q
theorem w_un {r : V → Hp → VK → Prop} (q : ta σ H fun x H1 => r x H1 Q) : tUn r ta σ H Q := q
theorem w_I0 {g : Int → Int → V} (q : Q (g i j) H) : rI0 g (.int i) (.int j) H Q := ⟨i, j, rfl, rfl, q⟩
theorem w_I {C : Int → Int → Prop} {g : Int → Int → V} (c : C i j) (q : Q (g i j) H) : rI C g (.int i) (.int j) H Q := ⟨i, j, rfl, rfl, c, q⟩
theorem w_U {g : Int → V} (q : Q (g i) H) : rU g (.int i) H Q := ⟨i, rfl, q⟩
theorem w_eq (h : scal x y = true) (q : Q (.bl (decide (x = y))) H) : rEq x y H Q := ⟨h, q⟩
theorem w_ne (h : scal x y = true) (q : Q (.bl (!decide (x = y))) H) : rNe x y H Q := ⟨h, q⟩
theorem w_test (q : te σ H fun x H' => ∃ k, x = .bl k ∧ QB k H') : tTest te σ H QB := q
theorem w_B (q : te σ H fun x H' => ∃ k, x = .bl k ∧ QB k H') : tB te σ H QB := q
theorem w_bl (q : QB b H) : ∃ k, V.bl b = .bl k ∧ QB k H := ⟨b, rfl, q⟩
theorem w_and (q : t σ H fun c H1 => if c = true then u σ H1 QB else QB false H1) : tAnd t u σ H QB := q
theorem w_or (q : t σ H fun c H1 => if c = true then QB true H1 else u σ H1 QB) : tOr t u σ H QB := q
theorem w_not (q : t σ H fun c H1 => QB (!c) H1) : tNot t σ H QB := q
theorem w_andV (q : ta σ H fun x H1 => ∃ c, x = .bl c ∧ if c = true then tb σ H1 Q else Q (.bl false) H1) : tAndV ta tb σ H Q := q
theorem w_orV (q : ta σ H fun x H1 => ∃ c, x = .bl c ∧ if c = true then Q (.bl true) H1 else tb σ H1 Q) : tOrV ta tb σ H Q := q
theorem w_notV (q : ta σ H fun x H1 => ∃ c, x = .bl c ∧ Q (.bl (!c)) H1) : tNotV ta σ H Q := q
theorem w_blV {p : Bool → Prop} (q : p b) : ∃ c, V.bl b = .bl c ∧ p c := ⟨b, rfl, q⟩
theorem w_seq {nx bk ct : L2.St → Hp → Prop} {rt : VK} (q : ts ⟨us ⟨nx, rt, bk, ct⟩, rt, bk, ct⟩ σ H) : tSeq ts us ⟨nx, rt, bk, ct⟩ σ H := q
theorem w_next {nx bk ct : L2.St → Hp → Prop} {rt : VK} (q : nx σ H) : tNext ⟨nx, rt, bk, ct⟩ σ H := q
theorem w_asg {g : TG} {nx bk ct : L2.St → Hp → Prop} {rt : VK} (q : te σ H fun x H1 => g x σ H1 nx) : tAsg te g ⟨nx, rt, bk, ct⟩ σ H := q
theorem w_drop {nx bk ct : L2.St → Hp → Prop} {rt : VK} (q : te σ H fun _ H1 => nx σ H1) : tDrop te ⟨nx, rt, bk, ct⟩ σ H := q
theorem w_ret {nx bk ct : L2.St → Hp → Prop} {rt : VK} (q : te σ H rt) : tRet te ⟨nx, rt, bk, ct⟩ σ H := q
theorem w_if {c : TT} (q : c σ H fun b H1 => if b = true then ts D σ H1 else us D σ H1) : tIfS c ts us D σ H := q
theorem w_name {N : St → Hp → Prop} (h : σ.set n (some v) = σ') (q : N σ' H) : gName n v σ H N := by rw [← h] at q; exact q
theorem w_nil (q : QL [] H) : tNil σ H QL := q
theorem w_cons (q : te σ H fun x H1 => tl σ H1 fun xs H2 => QL (x :: xs) H2) : tCons te tl σ H QL := q
theorem w_T {A B : Prop} {c : Bool} (h : c = true) (q : A) : if c = true then A else B := by rw [h]; exact iteT q
theorem w_F {A B : Prop} {c : Bool} (h : c = false) (q : B) : if c = true then A else B := by rw [h]; exact iteF q
theorem w_ite {c A B : Prop} [Decidable c] (h1 : c → A) (h2 : ¬ c → B) : if decide c = true then A else B := by
  by_cases h : c
  · rw [decide_eq_true h]; exact iteT (h1 h)
  · rw [decide_eq_false h]; exact iteF (h2 h)
theorem w_call {sp : Sp} {E : St → XK} (q : tl σ H fun vs H1 => sp vs H1 Q (E σ)) : tCallS sp E tl σ H Q := q
theorem w_cb {r : List V → Hp → VK → Prop} (q : tl σ H fun vs H1 => r vs H1 Q) : tCB r tl σ H Q := q
theorem set0 {a0 : Option V} {l : St} : (a0 :: l).set 0 (some v) = some v :: l := rfl
theorem set1 {a0 a1 : Option V} {l : St} : (a0 :: a1 :: l).set 1 (some v) = a0 :: some v :: l := rfl
theorem set2 {a0 a1 a2 : Option V} {l : St} : (a0 :: a1 :: a2 :: l).set 2 (some v) = a0 :: a1 :: some v :: l := rfl
theorem set3 {a0 a1 a2 a3 : Option V} {l : St} : (a0 :: a1 :: a2 :: a3 :: l).set 3 (some v) = a0 :: a1 :: a2 :: some v :: l := rfl
theorem set4 {a0 a1 a2 a3 a4 : Option V} {l : St} : (a0 :: a1 :: a2 :: a3 :: a4 :: l).set 4 (some v) = a0 :: a1 :: a2 :: a3 :: some v :: l := rfl
theorem set5 {a0 a1 a2 a3 a4 a5 : Option V} {l : St} : (a0 :: a1 :: a2 :: a3 :: a4 :: a5 :: l).set 5 (some v) = a0 :: a1 :: a2 :: a3 :: a4 :: some v :: l := rfl
theorem set6 {a0 a1 a2 a3 a4 a5 a6 : Option V} {l : St} : (a0 :: a1 :: a2 :: a3 :: a4 :: a5 :: a6 :: l).set 6 (some v) = a0 :: a1 :: a2 :: a3 :: a4 :: a5 :: some v :: l := rfl
theorem set7 {a0 a1 a2 a3 a4 a5 a6 a7 : Option V} {l : St} : (a0 :: a1 :: a2 :: a3 :: a4 :: a5 :: a6 :: a7 :: l).set 7 (some v) = a0 :: a1 :: a2 :: a3 :: a4 :: a5 :: a6 :: some v :: l := rfl
theorem set8 {a0 a1 a2 a3 a4 a5 a6 a7 a8 : Option V} {l : St} : (a0 :: a1 :: a2 :: a3 :: a4 :: a5 :: a6 :: a7 :: a8 :: l).set 8 (some v) = a0 :: a1 :: a2 :: a3 :: a4 :: a5 :: a6 :: a7 :: some v :: l := rfl
theorem set9 {a0 a1 a2 a3 a4 a5 a6 a7 a8 a9 : Option V} {l : St} : (a0 :: a1 :: a2 :: a3 :: a4 :: a5 :: a6 :: a7 :: a8 :: a9 :: l).set 9 (some v) = a0 :: a1 :: a2 :: a3 :: a4 :: a5 :: a6 :: a7 :: a8 :: some v :: l := rfl
theorem set10 {a0 a1 a2 a3 a4 a5 a6 a7 a8 a9 a10 : Option V} {l : St} : (a0 :: a1 :: a2 :: a3 :: a4 :: a5 :: a6 :: a7 :: a8 :: a9 :: a10 :: l).set 10 (some v) = a0 :: a1 :: a2 :: a3 :: a4 :: a5 :: a6 :: a7 :: a8 :: a9 :: some v :: l := rfl
theorem set11 {a0 a1 a2 a3 a4 a5 a6 a7 a8 a9 a10 a11 : Option V} {l : St} : (a0 :: a1 :: a2 :: a3 :: a4 :: a5 :: a6 :: a7 :: a8 :: a9 :: a10 :: a11 :: l).set 11 (some v) = a0 :: a1 :: a2 :: a3 :: a4 :: a5 :: a6 :: a7 :: a8 :: a9 :: a10 :: some v :: l := rfl
theorem set12 {a0 a1 a2 a3 a4 a5 a6 a7 a8 a9 a10 a11 a12 : Option V} {l : St} : (a0 :: a1 :: a2 :: a3 :: a4 :: a5 :: a6 :: a7 :: a8 :: a9 :: a10 :: a11 :: a12 :: l).set 12 (some v) = a0 :: a1 :: a2 :: a3 :: a4 :: a5 :: a6 :: a7 :: a8 :: a9 :: a10 :: a11 :: some v :: l := rfl
theorem set13 {a0 a1 a2 a3 a4 a5 a6 a7 a8 a9 a10 a11 a12 a13 : Option V} {l : St} : (a0 :: a1 :: a2 :: a3 :: a4 :: a5 :: a6 :: a7 :: a8 :: a9 :: a10 :: a11 :: a12 :: a13 :: l).set 13 (some v) = a0 :: a1 :: a2 :: a3 :: a4 :: a5 :: a6 :: a7 :: a8 :: a9 :: a10 :: a11 :: a12 :: some v :: l := rfl
theorem set14 {a0 a1 a2 a3 a4 a5 a6 a7 a8 a9 a10 a11 a12 a13 a14 : Option V} {l : St} : (a0 :: a1 :: a2 :: a3 :: a4 :: a5 :: a6 :: a7 :: a8 :: a9 :: a10 :: a11 :: a12 :: a13 :: a14 :: l).set 14 (some v) = a0 :: a1 :: a2 :: a3 :: a4 :: a5 :: a6 :: a7 :: a8 :: a9 :: a10 :: a11 :: a12 :: a13 :: some v :: l := rfl
theorem set15 {a0 a1 a2 a3 a4 a5 a6 a7 a8 a9 a10 a11 a12 a13 a14 a15 : Option V} {l : St} : (a0 :: a1 :: a2 :: a3 :: a4 :: a5 :: a6 :: a7 :: a8 :: a9 :: a10 :: a11 :: a12 :: a13 :: a14 :: a15 :: l).set 15 (some v) = a0 :: a1 :: a2 :: a3 :: a4 :: a5 :: a6 :: a7 :: a8 :: a9 :: a10 :: a11 :: a12 :: a13 :: a14 :: some v :: l := rfl
theorem set16 {a0 a1 a2 a3 a4 a5 a6 a7 a8 a9 a10 a11 a12 a13 a14 a15 a16 : Option V} {l : St} : (a0 :: a1 :: a2 :: a3 :: a4 :: a5 :: a6 :: a7 :: a8 :: a9 :: a10 :: a11 :: a12 :: a13 :: a14 :: a15 :: a16 :: l).set 16 (some v) = a0 :: a1 :: a2 :: a3 :: a4 :: a5 :: a6 :: a7 :: a8 :: a9 :: a10 :: a11 :: a12 :: a13 :: a14 :: a15 :: some v :: l := rfl
theorem set17 {a0 a1 a2 a3 a4 a5 a6 a7 a8 a9 a10 a11 a12 a13 a14 a15 a16 a17 : Option V} {l : St} : (a0 :: a1 :: a2 :: a3 :: a4 :: a5 :: a6 :: a7 :: a8 :: a9 :: a10 :: a11 :: a12 :: a13 :: a14 :: a15 :: a16 :: a17 :: l).set 17 (some v) = a0 :: a1 :: a2 :: a3 :: a4 :: a5 :: a6 :: a7 :: a8 :: a9 :: a10 :: a11 :: a12 :: a13 :: a14 :: a15 :: a16 :: some v :: l := rfl
theorem set18 {a0 a1 a2 a3 a4 a5 a6 a7 a8 a9 a10 a11 a12 a13 a14 a15 a16 a17 a18 : Option V} {l : St} : (a0 :: a1 :: a2 :: a3 :: a4 :: a5 :: a6 :: a7 :: a8 :: a9 :: a10 :: a11 :: a12 :: a13 :: a14 :: a15 :: a16 :: a17 :: a18 :: l).set 18 (some v) = a0 :: a1 :: a2 :: a3 :: a4 :: a5 :: a6 :: a7 :: a8 :: a9 :: a10 :: a11 :: a12 :: a13 :: a14 :: a15 :: a16 :: a17 :: some v :: l := rfl
theorem set19 {a0 a1 a2 a3 a4 a5 a6 a7 a8 a9 a10 a11 a12 a13 a14 a15 a16 a17 a18 a19 : Option V} {l : St} : (a0 :: a1 :: a2 :: a3 :: a4 :: a5 :: a6 :: a7 :: a8 :: a9 :: a10 :: a11 :: a12 :: a13 :: a14 :: a15 :: a16 :: a17 :: a18 :: a19 :: l).set 19 (some v) = a0 :: a1 :: a2 :: a3 :: a4 :: a5 :: a6 :: a7 :: a8 :: a9 :: a10 :: a11 :: a12 :: a13 :: a14 :: a15 :: a16 :: a17 :: a18 :: some v :: l := rfl
theorem set20 {a0 a1 a2 a3 a4 a5 a6 a7 a8 a9 a10 a11 a12 a13 a14 a15 a16 a17 a18 a19 a20 : Option V} {l : St} : (a0 :: a1 :: a2 :: a3 :: a4 :: a5 :: a6 :: a7 :: a8 :: a9 :: a10 :: a11 :: a12 :: a13 :: a14 :: a15 :: a16 :: a17 :: a18 :: a19 :: a20 :: l).set 20 (some v) = a0 :: a1 :: a2 :: a3 :: a4 :: a5 :: a6 :: a7 :: a8 :: a9 :: a10 :: a11 :: a12 :: a13 :: a14 :: a15 :: a16 :: a17 :: a18 :: a19 :: some v :: l := rfl
theorem set21 {a0 a1 a2 a3 a4 a5 a6 a7 a8 a9 a10 a11 a12 a13 a14 a15 a16 a17 a18 a19 a20 a21 : Option V} {l : St} : (a0 :: a1 :: a2 :: a3 :: a4 :: a5 :: a6 :: a7 :: a8 :: a9 :: a10 :: a11 :: a12 :: a13 :: a14 :: a15 :: a16 :: a17 :: a18 :: a19 :: a20 :: a21 :: l).set 21 (some v) = a0 :: a1 :: a2 :: a3 :: a4 :: a5 :: a6 :: a7 :: a8 :: a9 :: a10 :: a11 :: a12 :: a13 :: a14 :: a15 :: a16 :: a17 :: a18 :: a19 :: a20 :: some v :: l := rfl
theorem set22 {a0 a1 a2 a3 a4 a5 a6 a7 a8 a9 a10 a11 a12 a13 a14 a15 a16 a17 a18 a19 a20 a21 a22 : Option V} {l : St} : (a0 :: a1 :: a2 :: a3 :: a4 :: a5 :: a6 :: a7 :: a8 :: a9 :: a10 :: a11 :: a12 :: a13 :: a14 :: a15 :: a16 :: a17 :: a18 :: a19 :: a20 :: a21 :: a22 :: l).set 22 (some v) = a0 :: a1 :: a2 :: a3 :: a4 :: a5 :: a6 :: a7 :: a8 :: a9 :: a10 :: a11 :: a12 :: a13 :: a14 :: a15 :: a16 :: a17 :: a18 :: a19 :: a20 :: a21 :: some v :: l := rfl
theorem set23 {a0 a1 a2 a3 a4 a5 a6 a7 a8 a9 a10 a11 a12 a13 a14 a15 a16 a17 a18 a19 a20 a21 a22 a23 : Option V} {l : St} : (a0 :: a1 :: a2 :: a3 :: a4 :: a5 :: a6 :: a7 :: a8 :: a9 :: a10 :: a11 :: a12 :: a13 :: a14 :: a15 :: a16 :: a17 :: a18 :: a19 :: a20 :: a21 :: a22 :: a23 :: l).set 23 (some v) = a0 :: a1 :: a2 :: a3 :: a4 :: a5 :: a6 :: a7 :: a8 :: a9 :: a10 :: a11 :: a12 :: a13 :: a14 :: a15 :: a16 :: a17 :: a18 :: a19 :: a20 :: a21 :: a22 :: some v :: l := rfl
end
end L2.My

/-! W1: own ==, reflected ==, own minus in front; gcd of three; raising an own error; is of bools. -/
namespace L2.My
open PySem PySem.Spec PyProof.Rows PySem.SeqAt
open AutoSeq1 (wpAny_loadPart')

/-! ### the type of a value that is known -/
section
variable {X : Cx} {pins : List (Addr × Obj)} {σ : St} {H : Hp} {s : Shared} {y : V} {u t : Value}
theorem looks_ty (I : Inv X pins σ H s) (ru : RelV y u) (ty : TyX X.K H y t) : PySem.W.Looks (model X.prog X.w) s.heap (typeOf u) t := by
  obtain ⟨P, Z, p, _⟩ := kit_of I ru ty
  exact Z.ty _ _ I.kIn p
end

/-! ### x op y by x's own def -/
section
variable {X : Cx} {C : Addr} {k j : Nat} {ps : List Str} {sp : Sp} {E : XK} {m : Str}
def rOwnC (K : PySem.W.Frag) (C : Addr) (sp : Sp) (E : XK) : R2 := fun x y H Q => ∃ a dx fs t, x = .ref a ∧ H a = some (.ins C dx fs) ∧ TyX K H y t ∧ PySem.W.notFirst K C t = true ∧ sp [x, y] H Q E
theorem op_ownC {op : CmpOp} (hop : ∀ a b, compareOp op a b = richCompare op a b) (h : HasM X.prog X.w X.K X.mg X.base C (cmpInfo op).2.1 k ps sp) (hr : Room j X.A) (hx : Passes (L2.CX X.prog X.w) X E) (hj : k ≤ j := by decide) :
    OpR X (compareOp op) (rOwnC X.K C sp E) := by
  obtain ⟨f, fd, Fo, hm, hb⟩ := h
  intro pins s σ H x y v u Q I rx ry hh
  obtain ⟨a, dx, fs, t, rfl, ha, ty, hn, q⟩ := hh
  cases (show v = Value.ref a from rx)
  obtain ⟨mA, O, _⟩ := ins_get I.hok ha
  obtain ⟨od, J, _⟩ := O.look
  have hb' := looks_ty I ry ty
  obtain ⟨m, hF⟩ := I.fr
  rw [hop]
  refine PySem.W.cmp_K (op := op) (tb := t) hr.units0 hF I.ok.mod.kin J hb' hn hm.at_ hm.fn ?_
  refine wpAny_mono (run_fn Fo (hr.mono hj) hb .nil hx I (.cons rx (.cons ry .nil)) q) (fun w s' z => ?_) fun _ _ x => x
  obtain ⟨z', H', I', rz, qz⟩ := z
  exact SlX.cmpback rz ⟨z', H', I', rz, qz⟩
theorem op_eqC (h : HasM X.prog X.w X.K X.mg X.base C "__eq__" k ps sp) (hr : Room j X.A) (hx : Passes (L2.CX X.prog X.w) X E) (hj : k ≤ j := by decide) :
    OpR X (compareOp .Eq) (rOwnC X.K C sp E) := op_ownC (fun _ _ => rfl) h hr hx hj

/-! ### an int or a bool == an instance: the instance's own def, turned about -/
theorem int_eq_declines_ins_int (b : Int) (u : Tok) (l C dx : Addr) :
    Meets (Builtin.«int.__eq__» ⟨[.int b u, .ref l], []⟩) (fun _ R s => s.heap.get? l = some (PySem.W.instObj C dx) ∧ R (.ok (.ret .notImplemented)) s) :=
  .of_wp fun prog w A R s h => by obtain ⟨hp, g, d, tk, os⟩ := s; obtain ⟨hl, h⟩ := h; wp_walk using wpAny_loadPart' hl, wpAny_load hl; exact ⟨_, rfl, h⟩
theorem int_eq_declines_ins_bool (b : Bool) (l C dx : Addr) :
    Meets (Builtin.«int.__eq__» ⟨[.bool b, .ref l], []⟩) (fun _ R s => s.heap.get? l = some (PySem.W.instObj C dx) ∧ R (.ok (.ret .notImplemented)) s) :=
  .of_wp fun prog w A R s h => by obtain ⟨hp, g, d, tk, os⟩ := s; obtain ⟨hl, h⟩ := h; wp_walk using wpAny_loadPart' hl, wpAny_load hl; exact ⟨_, rfl, h⟩

theorem rc_refl {prog : Program} {w : World} {A : Around} {E : Value → Shared → Prop} {s : Shared} {K : PySem.W.Frag} {x C f : Addr} {ox : Obj} {od : Option Obj} {b : Value} {T : String} {Q : Value → Shared → Prop} (hu : A.units < cLine) (X : K.In s.heap) (I : PySem.W.InstAt s.heap x ox C od)
    (hb : s.TypeIs b T) (hsub : PySem.W.subIn K (.ref C) (.type T) = some false) (hs : PySem.W.findIn K (.ref C) "__eq__" = some (some (.ref f))) (hf : PySem.W.isFn K (.ref f) = true)
    (hd : ∀ Q' : Option Value → Shared → Prop, Q' none s → wpAny (model prog w) A (tryCompare b "__eq__" (.ref x)) Q' E s)
    (h : wpAny (model prog w) A (call (.ref f) [.ref x, b]) (PySem.W.CmpBack Q) E s) : wpAny (model prog w) A (richCompare .Eq b (.ref x)) Q E s := by
  have one : wpAny (model prog w) A (tryCompare (.ref x) "__eq__" b) (fun r s' => ∃ v, r = some v ∧ Q v s') E s := by
    unfold tryCompare
    refine wpAny_bind (PySem.W.ifBound_K X I hs hf (wpAny_mono h (fun v s' hv => ?_) fun _ _ e => e))
    cases v <;> first | exact hv.elim | exact wpAny_pure ⟨_, rfl, hv⟩
  have ot : oneThing? .Eq b (.ref x) = none := hb.oneThing_none _ _
  have hne : (Value.type T != Value.ref C) = true := rfl
  unfold richCompare
  rw [ot]
  refine wpAny_holding (wpAny_bind (wpAny_cRoomFor hu ?_))
  refine wpAny_bind (wpAny_typeOf hb (wpAny_bind (I.type.here ?_)))
  simp only [hne, if_true]
  refine wpAny_bind ((PySem.W.looks_subIn X hsub).here ?_)
  simp only [cmpInfo, Bool.false_eq_true, if_false, Bool.not_false, if_true]
  refine wpAny_bind (hd _ ?_)
  refine wpAny_bind (wpAny_mono one (fun r s' z => ?_) fun _ _ e => e)
  obtain ⟨v, rfl, hq⟩ := z
  exact wpAny_pure hq

def rOwnR (K : PySem.W.Frag) (C : Addr) (sp : Sp) (E : XK) : R2 := fun x y H Q => ∃ a dx fs, y = .ref a ∧ H a = some (.ins C dx fs) ∧
  ((∃ i, x = .int i) ∧ PySem.W.subIn K (.ref C) (.type "int") = some false ∨ (∃ b, x = .bl b) ∧ PySem.W.subIn K (.ref C) (.type "bool") = some false) ∧ sp [y, x] H Q E
theorem op_eqR (h : HasM X.prog X.w X.K X.mg X.base C "__eq__" k ps sp) (hr : Room j X.A) (hx : Passes (L2.CX X.prog X.w) X E) (hj : k ≤ j := by decide) :
    OpR X (compareOp .Eq) (rOwnR X.K C sp E) := by
  obtain ⟨f, fd, Fo, hm, hb⟩ := h
  intro pins s σ H x y v u Q I rx ry hh
  obtain ⟨a, dx, fs, rfl, ha, hxx, q⟩ := hh
  cases (show u = Value.ref a from ry)
  obtain ⟨mA, O, _⟩ := ins_get I.hok ha
  obtain ⟨od, J, _⟩ := O.look
  have call_ : wpAny (model X.prog X.w) X.A (call (.ref f) [.ref a, v]) (PySem.W.CmpBack (EP X pins σ Q)) X.xe s := by
    refine wpAny_mono (run_fn Fo (hr.mono hj) hb .nil hx I (.cons ry (.cons rx .nil)) q) (fun w s' z => ?_) fun _ _ x => x
    obtain ⟨z', H', I', rz, qz⟩ := z
    exact SlX.cmpback rz ⟨z', H', I', rz, qz⟩
  rcases hxx with ⟨⟨i, rfl⟩, hsub⟩ | ⟨⟨b, rfl⟩, hsub⟩
  · obtain ⟨t, rfl⟩ := (show ∃ t, v = Value.int i t from rx)
    exact rc_refl hr.units0 I.kIn J (typeIs_int s i t) hsub hm.at_ hm.fn (fun Q' hq => wpAny_tryCompare_declines (typeIs_int s i t) F.slot_int_eq
      (call_meets F.slot_int_eq (typeIs_int s i t) F.entry_int_eq (F.args_int_eq_2 _ _) (int_eq_declines_ins_int i t a C dx) ⟨O.obj, rfl, hq⟩)) call_
  · cases (show v = Value.bool b from rx)
    exact rc_refl hr.units0 I.kIn J (show s.TypeIs (.bool b) "bool" from rfl) hsub hm.at_ hm.fn (fun Q' hq => wpAny_tryCompare_declines (show s.TypeIs (.bool b) "bool" from rfl) F.slot_bool_eq
      (call_meets F.slot_bool_eq rfl F.entry_int_eq (F.args_int_eq_2 _ _) (int_eq_declines_ins_bool b a C dx) ⟨O.obj, rfl, hq⟩)) call_

/-! ### -x by x's own def -/
def rOwnU (C : Addr) (sp : Sp) (E : XK) : V → Hp → VK → Prop := fun x H Q => ∃ a dx fs, x = .ref a ∧ H a = some (.ins C dx fs) ∧ sp [x] H Q E
theorem un_own (h : HasM X.prog X.w X.K X.mg X.base C "__neg__" k ps sp) (hr : Room j X.A) (hx : Passes (L2.CX X.prog X.w) X E) (hj : k ≤ j := by decide) :
    UnR X (unaryOp .USub) (rOwnU C sp E) := by
  obtain ⟨f, fd, Fo, hm, hb⟩ := h
  intro pins s σ H x v Q I rx hh
  obtain ⟨a, dx, fs, rfl, ha, q⟩ := hh
  cases (show v = Value.ref a from rx)
  obtain ⟨mA, O, _⟩ := ins_get I.hok ha
  obtain ⟨od, J, _⟩ := O.look
  obtain ⟨m, hF⟩ := I.fr
  exact PySem.W.ksp_neg hF I.ok.mod.kin J hm.at_ hm.fn (run_fn Fo (hr.mono hj) hb .nil hx I (.cons rx .nil) q)

/-! ### math.gcd of three -/
theorem args_gcd3 (a b c : Value) : argsOk "math.gcd" ⟨[a, b, c], []⟩ := by unfold argsOk; kernel_rfl
theorem mg_run_gcd3 (a : Int) (t : Tok) (b : Int) (u : Tok) (c : Int) (w : Tok) :
    Gives (Builtin.«math.gcd» ⟨[.int a t, .int b u, .int c w], []⟩) (.int ((((Nat.gcd 0 a.natAbs).gcd b.natAbs).gcd c.natAbs : Nat) : Int)) :=
  .of_wp fun M A E s Q h => by obtain ⟨hp, g, d, tk, os⟩ := s; wp_walk; exact ⟨_, rfl, h⟩
def rGcd3 : List V → Hp → VK → Prop := fun vs H Q => ∃ a b c : Int, vs = [.int a, .int b, .int c] ∧ Q (.int (((a.natAbs.gcd b.natAbs).gcd c.natAbs : Nat) : Int)) H
theorem cr_gcd3 : CallR X (.builtin "math.gcd") rGcd3 := by
  intro pins s σ H vs us Q I r h
  obtain ⟨a, b, c, rfl, q⟩ := h
  cases r with
  | cons ra r =>
    cases r with
    | cons rb r =>
      cases r with
      | cons rc r =>
        cases r
        obtain ⟨t, rfl⟩ := ra
        obtain ⟨u, rfl⟩ := rb
        obtain ⟨w, rfl⟩ := rc
        have g := mg_run_gcd3 a t b u c w
        rw [Nat.gcd_zero_left] at g
        exact call_function_meets PySem.W.MGF.kind_gcd PySem.W.MGF.plain_gcd PySem.W.MGF.entry_gcd (args_gcd3 _ _ _) g.meets ⟨.int _, H, I.tok _, ⟨_, rfl⟩, q⟩
end
end L2.My

/-! W2: where defs stand, what is known of things, Roots. -/
namespace L2.My
open PySem PySem.Spec PyProof.Rows
/-! ### where a def of the text stands behind the top -/
def AtF (K : PySem.W.Frag) (mg : Str → Option Value) (x qual : Str) (st : Stmt) (ps : List Str) : Prop := ∃ f fd, Fun K x qual st f fd ∧ Binds K fd ps [] ∧ mg x = some (.ref f)
def AtM (K : PySem.W.Frag) (C : Addr) (m qual : Str) (st : Stmt) (ps : List Str) : Prop := ∃ f fd, Fun K m qual st f fd ∧ Binds K fd ps [] ∧ Meth K C m f
def AtC (K : PySem.W.Frag) (mg : Str → Option Value) (x : Str) (C : Addr) (qual : Str) (st : Stmt) (ps : List Str) : Prop := ∃ f fd, Fun K "__init__" qual st f fd ∧ Binds K fd ps [] ∧ Mk K C f ∧ mg x = some (.ref C)
def AtX (K : PySem.W.Frag) (mg : Str → Option Value) (x : Str) (C : Addr) (qual : Str) (st : Stmt) (ps : List Str) : Prop := ∃ f fd, Fun K "__init__" qual st f fd ∧ Binds K fd ps [] ∧ mg x = some (.ref C) ∧
  PySem.W.findIn K (.ref C) "__init__" = some (some (.ref f)) ∧ PySem.W.typeIn K (.ref f) = some (.type "function")
section
variable {P : Program} {w : World} {K : PySem.W.Frag} {mg : Str → Option Value} {base : Heap} {x m qual : Str} {st : Stmt} {N ps : List Str} {k : Nat} {sp : Sp} {C : Addr}
abbrev BodyOk (P : Program) (w : World) (K : PySem.W.Frag) (mg : Str → Option Value) (base : Heap) (N : List Str) (qual : Str) (st : Stmt) (k : Nat) (sp : Sp) (f : Addr) : Prop :=
  ∀ (cdv : Value) (A : Around) (outer : List Env) (s : Shared) (H : Hp) (vs : List V) (Q : VK) (E : XK), Room k (A.deeper (envOfC qual (defScope st) s.heap.objs.size f cdv)) → sp vs H Q E →
    ∃ t, PSs (cxOf (L2.CX P w) P w K mg base N qual (defScope st) f cdv A outer s H E) (defBody st) t ∧ t { nx := fun _ H' => Q .non H', rt := Q } (start N vs) H
theorem AtF.ok (D : AtF K mg x qual st ps) (S : FnScope N ps (defScope st)) (len : ∀ vs H Q E, sp vs H Q E → vs.length = ps.length) (h : ∀ {f : Addr}, BodyOk P w K mg base N qual st k sp f) : Has P w K mg base x (k + 1) ps sp := by
  obtain ⟨f, fd, Fo, b, g⟩ := D
  exact ⟨f, fd, Fo.okX S len h, g, Fo.kp, b⟩
theorem AtM.ok (D : AtM K C m qual st ps) (S : FnScope N ps (defScope st)) (len : ∀ vs H Q E, sp vs H Q E → vs.length = ps.length) (h : ∀ {f : Addr}, BodyOk P w K mg base N qual st k sp f) : HasM P w K mg base C m (k + 1) ps sp := by
  obtain ⟨f, fd, Fo, b, g⟩ := D
  exact ⟨f, fd, Fo.okX S len h, g, b⟩
theorem AtC.ok (D : AtC K mg x C qual st ps) (S : FnScope N ps (defScope st)) (len : ∀ vs H Q E, sp vs H Q E → vs.length = ps.length) (h : ∀ {f : Addr}, BodyOk P w K mg base N qual st k sp f) : HasC P w K mg base x C (k + 1) ps sp := by
  obtain ⟨f, fd, Fo, b, g, h2⟩ := D
  exact ⟨f, fd, Fo.okX S len h, g, h2, b⟩
/-- an own error class that is made -/
def HasX (P : Program) (w : World) (K : PySem.W.Frag) (mg : Str → Option Value) (base : Heap) (x : Str) (C : Addr) (k : Nat) (ps : List Str) (sp : Sp) : Prop :=
  ∃ f fd, FnOk P w K mg base (L2.CX P w) k f fd ps sp ∧ mg x = some (.ref C) ∧ PySem.W.findIn K (.ref C) "__init__" = some (some (.ref f)) ∧ PySem.W.typeIn K (.ref f) = some (.type "function") ∧ Binds K fd ps []
theorem AtX.ok (D : AtX K mg x C qual st ps) (S : FnScope N ps (defScope st)) (len : ∀ vs H Q E, sp vs H Q E → vs.length = ps.length) (h : ∀ {f : Addr}, BodyOk P w K mg base N qual st k sp f) : HasX P w K mg base x C (k + 1) ps sp := by
  obtain ⟨f, fd, Fo, b, g, h2, h3⟩ := D
  exact ⟨f, fd, Fo.okX S len h, g, h2, h3, b⟩
end
/-- making an own error, to be raised -/
theorem pm_h {X : Cx} {x : Str} {C : Addr} {k j : Nat} {ps : List Str} {sp : Sp} {e : Expr} {es : List Expr} {ta : TA} {p pos : Pos} (T : OexC X.K C) (h : HasX X.prog X.w X.K X.mg X.base x C k ps sp) (hr : Room j X.A) (ha : PA X (e :: es) ta) (hj : k + 1 ≤ j := by decide) (hg : Gl X x := by rfl)
    (hdb : (x == ("__debug__" : Str)) = false := by decide) (he : starEach (e :: es) X.env = (false, eval e X.env) :: starEach es X.env := by rfl) (hpl : (backTo pos (starEach es X.env)).any (·.1) = false := by rfl) :
    PMk X (.Call (.Name x p) (e :: es) [] pos) (tMkO C sp [] ta) := by
  obtain ⟨f, fd, Fo, hm, iC, tI, hb⟩ := h
  exact pmk_oex T iC tI Fo (hr.mono hj) hb .nil passL hg hm ha hdb he hpl
/-! ### what is known of things -/
/-- what stands is as it was, but for the object at p -/
def SameX (p : Addr) (H H' : Hp) : Prop := ∀ b o, b ≠ p → H b = some o → H' b = some o
theorem Same.x {p : Addr} {H H' : Hp} (h : Same H H') : SameX p H H' := fun b o _ e => h b o e
theorem SameX.trans {p : Addr} {H H1 H2 : Hp} (a : SameX p H H1) (b : SameX p H1 H2) : SameX p H H2 := fun c o n e => b c o n (a c o n e)
theorem SameX.upd {p : Addr} {H H1 : Hp} {o : HO} (a : SameX p H H1) : SameX p H (upd H1 p o) := fun c u n e => by rw [upd_ne n]; exact a c u n e
theorem Same.new {H : Hp} {p : Addr} {o : HO} (h : H p = none) : Same H (upd H p o) := fun a u e => by rw [upd_ne (ne_of_none e h)]; exact e
def rootF (t r b : Int) : List (Str × V) := [("top", .int t), ("root", .int r), ("bottom", .int b)]
/-- a number as the package keeps it -/
def RootAt (c : Addr) (H : Hp) (v : V) (t r b : Int) : Prop := ∃ a dx, v = .ref a ∧ H a = some (.ins c dx (rootF t r b))
theorem RootAt.same {c : Addr} {H H' : Hp} {v : V} {t r b : Int} (h : RootAt c H v t r b) (s : Same H H') : RootAt c H' v t r b := by
  obtain ⟨a, dx, rfl, e⟩ := h
  exact ⟨a, dx, rfl, s _ _ e⟩
/-- a thing of a kind that is known -/
inductive Th (c : Addr) (H : Hp) : V → Prop
  | non : Th c H .non
  | bl (b : Bool) : Th c H (.bl b)
  | int (i : Int) : Th c H (.int i)
  | str (s : Str) : Th c H (.str s)
  | lst (a : Addr) (xs : List V) (e : H a = some (.lst xs)) : Th c H (.ref a)
  | tup (a : Addr) (xs : List V) (e : H a = some (.tup xs)) : Th c H (.ref a)
  | dK (a : Addr) (kvs : List (Key × V)) (e : H a = some (.dK kvs)) : Th c H (.ref a)
  | root (a dx : Addr) (t r b : Int) (e : H a = some (.ins c dx (rootF t r b))) : Th c H (.ref a)
theorem Th.same {c : Addr} {H H' : Hp} {v : V} (h : Th c H v) (s : Same H H') : Th c H' v := by
  cases h with
  | non => exact .non
  | bl b => exact .bl b
  | int i => exact .int i
  | str s => exact .str s
  | lst a xs e => exact .lst a xs (s _ _ e)
  | tup a xs e => exact .tup a xs (s _ _ e)
  | dK a xs e => exact .dK a xs (s _ _ e)
  | root a dx t r b e => exact .root a dx t r b (s _ _ e)
def isI : V → Bool
  | .int _ => true
  | _ => false
def isB : V → Bool
  | .bl _ => true
  | _ => false
def isC (c : Addr) (H : Hp) : V → Bool
  | .ref a => match H a with
    | some (.ins C _ _) => decide (C = c)
    | _ => false
  | _ => false
/-- what isinstance says of the kinds, for the class at C -/
structure KiT (K : PySem.W.Frag) (c : Addr) : Prop where
  ty : Cls K c
  ha : PySem.W.findIn K (.ref c) "__class__" = some (some (.builtin "object.__class__"))
  hn : PySem.W.specialIn K (.builtin "object.__class__") "__get__" = some (some (.builtin "getset_descriptor.__get__"))
  htk : PySem.W.takesIn K (.builtin "object.__class__") = some true
  hm : PySem.W.mroIn K c (.type "object") = some true
  i : PySem.W.kitOne K (.ref c) (.type "int") = some false
  b : PySem.W.kitOne K (.ref c) (.type "bool") = some false
  cc : PySem.W.kitOne K (.ref c) (.ref c) = some true
  k1 : PySem.W.kitOne K (.type "NoneType") (.ref c) = some false
  k2 : PySem.W.kitOne K (.type "bool") (.ref c) = some false
  k3 : PySem.W.kitOne K (.type "int") (.ref c) = some false
  k4 : PySem.W.kitOne K (.type "str") (.ref c) = some false
  k5 : PySem.W.kitOne K (.type "list") (.ref c) = some false
  k6 : PySem.W.kitOne K (.type "tuple") (.ref c) = some false
  k7 : PySem.W.kitOne K (.type "dict") (.ref c) = some false
  n1 : PySem.W.subIn K (.type "NoneType") (.ref c) = some false
  n2 : PySem.W.subIn K (.type "bool") (.ref c) = some false
  n3 : PySem.W.subIn K (.type "int") (.ref c) = some false
  n4 : PySem.W.subIn K (.type "str") (.ref c) = some false
  n5 : PySem.W.subIn K (.type "list") (.ref c) = some false
  n6 : PySem.W.subIn K (.type "tuple") (.ref c) = some false
  n7 : PySem.W.subIn K (.type "dict") (.ref c) = some false
  s1 : PySem.W.subIn K (.ref c) (.type "int") = some false
  s2 : PySem.W.subIn K (.ref c) (.type "bool") = some false
theorem Th.ty {K : PySem.W.Frag} {c : Addr} {H : Hp} {v : V} (h : Th c H v) (T : KiT K c) : ∃ t, TyX K H v t ∧ PySem.W.kitOne K t (.type "int") = some (isI v || isB v) ∧ PySem.W.kitOne K t (.type "bool") = some (isB v) ∧
    PySem.W.kitOne K t (.ref c) = some (isC c H v) ∧ PySem.W.notFirst K c t = true := by
  have nf : ∀ t, PySem.W.subIn K t (.ref c) = some false → PySem.W.notFirst K c t = true := fun t e => by
    unfold PySem.W.notFirst
    rw [e]
    simp
  have kb : ∀ (a b : String) (r : Bool), kitB a b = some r → PySem.W.kitOne K (.type a) (.type b) = some r := fun _ _ _ h => kit_ty h
  have ib : ∀ {a : Addr} {o : HO} (_ : H a = some o) (_ : ∀ C dx fs, o ≠ .ins C dx fs), isC c H (.ref a) = false := fun {a o} e n => by
    show (match H a with | some (.ins C _ _) => decide (C = c) | _ => false) = false
    rw [e]
    cases o <;> first | rfl | exact absurd rfl (n _ _ _)
  cases h with
  | non => exact ⟨_, .base .non, kb "NoneType" "int" false (by decide +kernel), kb "NoneType" "bool" false (by decide +kernel), T.k1, nf _ T.n1⟩
  | bl b => exact ⟨_, .base (.bl b), kb "bool" "int" true (by decide +kernel), kb "bool" "bool" true (by decide +kernel), T.k2, nf _ T.n2⟩
  | int i => exact ⟨_, .base (.int i), kb "int" "int" true (by decide +kernel), kb "int" "bool" false (by decide +kernel), T.k3, nf _ T.n3⟩
  | str s => exact ⟨_, .base (.str s), kb "str" "int" false (by decide +kernel), kb "str" "bool" false (by decide +kernel), T.k4, nf _ T.n4⟩
  | lst a xs e => exact ⟨_, .base (.lst e), kb "list" "int" false (by decide +kernel), kb "list" "bool" false (by decide +kernel), (by rw [ib e (by intros; intro q; cases q)]; exact T.k5), nf _ T.n5⟩
  | tup a xs e => exact ⟨_, .base (.tup e), kb "tuple" "int" false (by decide +kernel), kb "tuple" "bool" false (by decide +kernel), (by rw [ib e (by intros; intro q; cases q)]; exact T.k6), nf _ T.n6⟩
  | dK a xs e => exact ⟨_, .base (.dK e), kb "dict" "int" false (by decide +kernel), kb "dict" "bool" false (by decide +kernel), (by rw [ib e (by intros; intro q; cases q)]; exact T.k7), nf _ T.n7⟩
  | root a dx t r b e =>
    have ic : isC c H (.ref a) = true := by
      show (match H a with | some (.ins C _ _) => decide (C = c) | _ => false) = true
      rw [e]
      exact decide_eq_true rfl
    exact ⟨_, .base (.ins e T.ty T.ha T.hn T.htk T.hm), T.i, T.b, (by rw [ic]; exact T.cc), (by unfold PySem.W.notFirst; simp)⟩
theorem w_isi {K : PySem.W.Frag} {H : Hp} {x : V} {n : String} {t : Value} {b : Bool} {Q : VK} (ty : TyX K H x t) (k : PySem.W.kitOne K t (.type n) = some b) (q : Q (.bl b) H) : rIsi K [x, .ty n] H Q := ⟨x, .ty n, t, _, b, rfl, .ty n, ty, k, q⟩
theorem w_isiC {K : PySem.W.Frag} {H : Hp} {x : V} {c : Addr} {t : Value} {b : Bool} {Q : VK} (ty : TyX K H x t) (k : PySem.W.kitOne K t (.ref c) = some b) (q : Q (.bl b) H) : rIsi K [x, .ref c] H Q := ⟨x, .ref c, t, _, b, rfl, .own c, ty, k, q⟩

/-! ### more steps -/
section
variable {K : PySem.W.Frag} {σ : St} {H : Hp} {Q : VK} {te : TE} {tl : TA} {a : Addr} {xs : List V} {i : Int} {v : V}
theorem sz1000 {n : Nat} (h : n ≤ 1000) : n ≤ sizeLine := Nat.le_trans h (by decide)
theorem Same.upd_new {H H1 : Hp} {p : Addr} {o : HO} (s : Same H H1) (h : H1 p = none) : Same H (upd H1 p o) := s.trans (Same.new h)
/-- a new tuple, a new list: what is asked -/
def NewT (xs : List V) (H : Hp) (Q : VK) : Prop := xs.length ≤ sizeLine ∧ ∀ p, H p = none → Q (.ref p) (upd H p (.tup xs))
def NewL (xs : List V) (H : Hp) (Q : VK) : Prop := xs.length ≤ sizeLine ∧ ∀ p, H p = none → Q (.ref p) (upd H p (.lst xs))
theorem k_tup (hl : Nat.ble xs.length 1000 = true) (q : ∀ p H2, H p = none → Same H H2 → H2 p = some (.tup xs) → Q (.ref p) H2) : NewT xs H Q :=
  ⟨sz1000 (Nat.le_of_ble_eq_true hl), fun p hp => q p _ hp (Same.new hp) upd_same⟩
theorem k_lst (hl : Nat.ble xs.length 1000 = true) (q : ∀ p H2, H p = none → Same H H2 → H2 p = some (.lst xs) → Q (.ref p) H2) : NewL xs H Q :=
  ⟨sz1000 (Nat.le_of_ble_eq_true hl), fun p hp => q p _ hp (Same.new hp) upd_same⟩
theorem w_tup (q : tl σ H fun xs H1 => NewT xs H1 Q) : tTup tl σ H Q := q
theorem w_lst (q : tl σ H fun xs H1 => NewL xs H1 Q) : tLst tl σ H Q := q
theorem w_ixL (h : H a = some (.lst xs)) (e : atI xs i = some v) (q : Q v H) : rIx K (.ref a) (.int i) H Q := .inl ⟨a, xs, i, v, rfl, rfl, SqL.of h, e, q⟩
theorem w_ixT (h : H a = some (.tup xs)) (e : atI xs i = some v) (q : Q v H) : rIx K (.ref a) (.int i) H Q := .inr (.inl ⟨a, xs, i, v, rfl, rfl, SqT.of h, e, q⟩)
/-- a field of an instance: what is asked -/
def FldP (K : PySem.W.Frag) (f : Str) (x : V) (H : Hp) (Q : VK) : Prop := ∃ a C dx fs v, x = .ref a ∧ H a = some (.ins C dx fs) ∧ Cls K C ∧ NoAttr K C f ∧ fs.lookup f = some v ∧ Q v H
theorem w_fld {C dx : Addr} {fs : List (Str × V)} {f : Str} (h : H a = some (.ins C dx fs)) (hc : Cls K C) (hn : NoAttr K C f) (l : fs.lookup f = some v) (q : Q v H) : FldP K f (.ref a) H Q :=
  ⟨a, C, dx, fs, v, rfl, h, hc, hn, l, q⟩
theorem w_fldE {f : Str} (q : te σ H fun x H1 => FldP K f x H1 Q) : tFld K te f σ H Q := q
/-- a field stored: what is asked -/
def StoP (K : PySem.W.Frag) (f : Str) (y x : V) (H : Hp) (N : Hp → Prop) : Prop := ∃ a C dx fs, x = .ref a ∧ H a = some (.ins C dx fs) ∧ Cls K C ∧ NoAttr K C f ∧ fs.length < 1000 ∧ N (upd H a (.ins C dx (putF f y fs)))
theorem w_sto {C dx : Addr} {fs : List (Str × V)} {f : Str} {N : Hp → Prop} (h : H a = some (.ins C dx fs)) (hc : Cls K C) (hn : NoAttr K C f) (l : Nat.blt fs.length 1000 = true) (q : ∀ H', SameX a H H' → H' a = some (.ins C dx (putF f v fs)) → N H') : StoP K f v (.ref a) H N :=
  ⟨a, C, dx, fs, rfl, h, hc, hn, by simpa using l, q _ (SameX.upd fun _ _ _ e => e) upd_same⟩
theorem w_stoE {f : Str} {tv : TE} {nx bk ct : L2.St → Hp → Prop} {rt : VK} (q : tv σ H fun y H1 => te σ H1 fun x H2 => StoP K f y x H2 fun H3 => nx σ H3) : sFld K te tv f ⟨nx, rt, bk, ct⟩ σ H := q
theorem rf_top (t r b : Int) : (rootF t r b).lookup ("top" : Str) = some (.int t) := by simp [rootF, List.lookup]
theorem rf_root (t r b : Int) : (rootF t r b).lookup ("root" : Str) = some (.int r) := by
  have : (("root" : Str) == "top") = false := by decide +kernel
  simp [rootF, List.lookup, this]
theorem rf_bottom (t r b : Int) : (rootF t r b).lookup ("bottom" : Str) = some (.int b) := by
  have h1 : (("bottom" : Str) == "top") = false := by decide +kernel
  have h2 : (("bottom" : Str) == "root") = false := by decide +kernel
  simp [rootF, List.lookup, h1, h2]
theorem put_root (t r b : Int) : putF "bottom" (.int b) (putF "root" (.int r) (putF "top" (.int t) [])) = rootF t r b := by
  have h1 : ¬ (("top" : Str) = "root") := by decide +kernel
  have h2 : ¬ (("top" : Str) = "bottom") := by decide +kernel
  have h3 : ¬ (("root" : Str) = "bottom") := by decide +kernel
  simp [putF, rootF, h1, h2, h3]
theorem put1 (v : V) : putF "top" v [] = [(("top" : Str), v)] := rfl
theorem put2 (u v : V) : putF "root" v [(("top" : Str), u)] = [(("top" : Str), u), ("root", v)] := by
  have h1 : ¬ (("top" : Str) = "root") := by decide +kernel
  simp [putF, h1]
theorem put3 (t r b : Int) : putF "bottom" (.int b) [(("top" : Str), .int t), ("root", .int r)] = rootF t r b := by
  have h2 : ¬ (("top" : Str) = "bottom") := by decide +kernel
  have h3 : ¬ (("root" : Str) = "bottom") := by decide +kernel
  simp [putF, rootF, h2, h3]
theorem rf_eq {t r b t' r' b' : Int} : rootF t r b = rootF t' r' b' ↔ t = t' ∧ r = r' ∧ b = b' := by simp [rootF]
end
/-! ### loops and comprehensions: the thing that is walked is known -/
section
variable {K : PySem.W.Frag} {σ : St} {H : Hp} {Q : VK} {tl : TE} {ta : TA} {g : TG} {tb : TS} {D : Ends} {p : Addr} {xs : List V} {tt : TT} {te : TE} {ws : List Nat}
def ForT (K : PySem.W.Frag) (g : TG) (tb : TS) (D : Ends) (σ : St) (x : V) (H : Hp) : Prop := tFor (iTup K (tC x)) g tb D σ H
def ForL (K : PySem.W.Frag) (g : TG) (tb : TS) (D : Ends) (σ : St) (x : V) (H : Hp) : Prop := tFor (iList K (tC x)) g tb D σ H
def ForR (g : TG) (tb : TS) (D : Ends) (σ : St) (vs : List V) (H : Hp) : Prop := tFor (iRng1 fun _ H Q => Q vs H) g tb D σ H
def ForR2 (g : TG) (tb : TS) (D : Ends) (σ : St) (vs : List V) (H : Hp) : Prop := tFor (iRng2 fun _ H Q => Q vs H) g tb D σ H
def CompL (K : PySem.W.Frag) (g : TG) (tt : TT) (te : TE) (ws : List Nat) (σ : St) (x : V) (H : Hp) (Q : VK) : Prop := tLc (iList K (tC x)) g tt te ws σ H Q
def CompT (K : PySem.W.Frag) (g : TG) (tt : TT) (te : TE) (ws : List Nat) (σ : St) (x : V) (H : Hp) (Q : VK) : Prop := tLc (iTup K (tC x)) g tt te ws σ H Q
def CompR (g : TG) (tt : TT) (te : TE) (ws : List Nat) (σ : St) (vs : List V) (H : Hp) (Q : VK) : Prop := tLc (iRng1 fun _ H Q => Q vs H) g tt te ws σ H Q
theorem w_forT (q : tl σ H fun x H1 => ForT K g tb D σ x H1) : tFor (iTup K tl) g tb D σ H := q
theorem w_forL (q : tl σ H fun x H1 => ForL K g tb D σ x H1) : tFor (iList K tl) g tb D σ H := q
theorem w_forR (q : ta σ H fun vs H1 => ForR g tb D σ vs H1) : tFor (iRng1 ta) g tb D σ H := q
theorem w_forR2 (q : ta σ H fun vs H1 => ForR2 g tb D σ vs H1) : tFor (iRng2 ta) g tb D σ H := q
theorem w_lcL (q : tl σ H fun x H1 => CompL K g tt te ws σ x H1 Q) : tLc (iList K tl) g tt te ws σ H Q := q
theorem w_lcT (q : tl σ H fun x H1 => CompT K g tt te ws σ x H1 Q) : tLc (iTup K tl) g tt te ws σ H Q := q
theorem w_lcR (q : ta σ H fun vs H1 => CompR g tt te ws σ vs H1 Q) : tLc (iRng1 ta) g tt te ws σ H Q := q
theorem k_forT {nx bk ct : L2.St → Hp → Prop} {rt : VK} (Pv : Nat → St → Hp → Prop) (h : H p = some (.tup xs)) (h0 : Pv 0 σ H) (hl : ∀ i σ H, Pv i σ H → H p = some (.tup xs))
    (hs : ∀ i x σ H, xs[i]? = some x → Pv i σ H → g x σ H fun σ2 H2 => tb ⟨Pv (i + 1), rt, nx, Pv (i + 1)⟩ σ2 H2) (hd : ∀ σ H, Pv xs.length σ H → nx σ H) : ForT K g tb ⟨nx, rt, bk, ct⟩ σ (.ref p) H :=
  ⟨p, rfl, ⟨_, SqT.of h⟩, for_tup (xs := xs) Pv h0 (fun i σ H _ q => SqT.of (hl i σ H q)) hs hd⟩
theorem k_forL {nx bk ct : L2.St → Hp → Prop} {rt : VK} (Pv : Nat → St → Hp → Prop) (h : SqL K H p xs) (h0 : Pv 0 σ H) (hl : ∀ i σ H, Pv i σ H → SqL K H p xs)
    (hs : ∀ i x σ H, xs[i]? = some x → Pv i σ H → g x σ H fun σ2 H2 => tb ⟨Pv (i + 1), rt, nx, Pv (i + 1)⟩ σ2 H2) (hd : ∀ σ H, Pv xs.length σ H → nx σ H) : ForL K g tb ⟨nx, rt, bk, ct⟩ σ (.ref p) H :=
  ⟨p, rfl, ⟨_, h⟩, for_list (xs := xs) Pv h0 (fun i σ H _ q => hl i σ H q) hs hd⟩
theorem k_forR {nx bk ct : L2.St → Hp → Prop} {rt : VK} {n : Int} (Pv : Nat → St → Hp → Prop) (h1 : -(2 ^ 62) ≤ n) (h2 : n < 2 ^ 62) (h0 : Pv 0 σ H)
    (hs : ∀ i σ H, i < n.toNat → Pv i σ H → g (.int (0 + (i : Nat))) σ H fun σ2 H2 => tb ⟨Pv (i + 1), rt, nx, Pv (i + 1)⟩ σ2 H2) (hd : ∀ σ H, Pv n.toNat σ H → nx σ H) : ForR g tb ⟨nx, rt, bk, ct⟩ σ [.int n] H :=
  ⟨n, rfl, h1, h2, for_range (lo := 0) (n := n.toNat) Pv h0 hs hd⟩
theorem k_lcR {n : Int} (Pv : Nat → Addr → Hp → Prop) (h1 : -(2 ^ 62) ≤ n) (h2 : n < 2 ^ 62) (h0 : ∀ D, H D = none → Pv 0 D (upd H D (.lst [])))
    (hs : ∀ i D H, i < n.toNat → Pv i D H → g (.int (0 + (i : Nat))) (wipe σ ws) H fun σ2 H2 => wipe σ2 ws = wipe σ ws ∧ tt σ2 H2 fun b H3 =>
      if b = true then te σ2 H3 fun y H4 => ∃ acc, H4 D = some (.lst acc) ∧ acc.length < sizeLine ∧ Pv (i + 1) D (upd H4 D (.lst (acc ++ [y]))) else Pv (i + 1) D H3) (hd : ∀ D H, Pv n.toNat D H → Q (.ref D) H) : CompR g tt te ws σ [.int n] H Q :=
  ⟨n, rfl, h1, h2, fun D hD => lc_range (lo := 0) (n := n.toNat) (fun i H => Pv i D H) (h0 D hD) (fun i H hi q => hs i D H hi q) (fun H q => hd D H q)⟩
theorem k_lcL (Pv : Nat → Addr → Hp → Prop) (h : SqL K H p xs) (h0 : ∀ D, H D = none → Pv 0 D (upd H D (.lst []))) (hl : ∀ i D H, Pv i D H → SqL K H p xs)
    (hs : ∀ i x D H, xs[i]? = some x → Pv i D H → g x (wipe σ ws) H fun σ2 H2 => wipe σ2 ws = wipe σ ws ∧ tt σ2 H2 fun b H3 =>
      if b = true then te σ2 H3 fun y H4 => ∃ acc, H4 D = some (.lst acc) ∧ acc.length < sizeLine ∧ Pv (i + 1) D (upd H4 D (.lst (acc ++ [y]))) else Pv (i + 1) D H3) (hd : ∀ D H, Pv xs.length D H → Q (.ref D) H) : CompL K g tt te ws σ (.ref p) H Q :=
  ⟨p, rfl, ⟨_, h⟩, fun D hD => lc_list (xs := xs) (fun i H => Pv i D H) (h0 D hD) (fun i H _ q => hl i D H q) (fun i x H hx q => hs i x D H hx q) (fun H q => hd D H q)⟩
end
/-! ### instances made -/
/-- C(..): what is asked -/
def MkC (C : Addr) (sp : Sp) (E : XK) (vs : List V) (H : Hp) (Q : VK) : Prop := ∀ x dx, H x = none → H dx = none → dx ≠ x →
  sp (.ref x :: vs) (upd (upd H dx (.own x)) x (.ins C dx [])) (fun v H2 => v = .non ∧ Q (.ref x) H2) E
theorem w_mkC {C : Addr} {sp : Sp} {E : L2.St → XK} {tl : TA} {σ : L2.St} {H : Hp} {Q : VK} (q : tl σ H fun vs H1 => MkC C sp (E σ) vs H1 Q) : tMakeS C sp E tl σ H Q := q
/-- o.m(..): what is asked of o -/
def MethP (C : Addr) (m : Str) (x : V) (H : Hp) (N : Hp → Prop) : Prop := ∃ a dx fs, x = .ref a ∧ H a = some (.ins C dx fs) ∧ fs.lookup m = none ∧ N H
theorem w_meth {C : Addr} {m : Str} {sp : Sp} {E : L2.St → XK} {ta : TE} {tl : TA} {σ : L2.St} {H : Hp} {Q : VK} (q : ta σ H fun x H1 => MethP C m x H1 fun H2 => tl σ H2 fun vs H3 => sp (x :: vs) H3 Q (E σ)) : tMethS C m sp E ta tl σ H Q := q
theorem k_meth {C a dx : Addr} {m : Str} {fs : List (Str × V)} {H : Hp} {N : Hp → Prop} (h : H a = some (.ins C dx fs)) (l : fs.lookup m = none) (q : N H) : MethP C m (.ref a) H N := ⟨a, dx, fs, rfl, h, l, q⟩
theorem rf_none {t r b : Int} {m : Str} (h1 : (m == ("top" : Str)) = false) (h2 : (m == ("root" : Str)) = false) (h3 : (m == ("bottom" : Str)) = false) : (rootF t r b).lookup m = none := by simp [rootF, List.lookup, h1, h2, h3]
/-! ### own errors with one field -/
def spX (C : Addr) (f : Str) : Sp := fun vs H Q _ => ∃ (a : Addr) (v : V), vs = [.ref a, v] ∧ H a = some (exo a C none) ∧ ∀ d, H d = none → d ≠ a → Q .non (upd (upd H d (exd d [(f, v)])) a (exo a C (some d)))
/-- an own error made: what is asked -/
def MkOP (C : Addr) (sp : Sp) (vs : List V) (H : Hp) (Q : XK) : Prop := vs.length ≤ 1000 ∧ ∀ a, H a = none → sp (.ref a :: (vs ++ [])) (upd H a (exo a C none))
    (fun v H2 => v = .non ∧ ∃ (d : Addr) (fs : List (Str × V)), H2 a = some (exo a C (some d)) ∧ H2 d = some (exd d fs) ∧ H d = none ∧ Q (.ref C) (some d) (upd (del H2 a) d (.xd fs))) (fun _ _ _ => False)
theorem w_mkO {C : Addr} {sp : Sp} {tl : TA} {σ : St} {H : Hp} {Q : XK} (q : tl σ H fun vs H1 => MkOP C sp vs H1 Q) : tMkO C sp [] tl σ H Q := q
theorem k_mkO {C : Addr} {f : Str} {v : V} {H : Hp} {Q : XK} (h : ∀ d H2, H d = none → Same H H2 → H2 d = some (.xd [(f, v)]) → Q (.ref C) (some d) H2) : MkOP C (spX C f) [v] H Q := by
  refine ⟨by simp, fun a ha => ⟨a, v, rfl, upd_same, fun d hd hn => ⟨rfl, d, [(f, v)], upd_same, ?_, ?_, ?_⟩⟩⟩
  · rw [upd_ne hn, upd_same]
  · rw [upd_ne hn] at hd; exact hd
  · have hd' : H d = none := by rw [upd_ne hn] at hd; exact hd
    refine h d _ hd' (fun b o e => ?_) upd_same
    have n1 : b ≠ d := ne_of_none e hd'
    have n2 : b ≠ a := ne_of_none e ha
    rw [upd_ne n1, del_ne n2, upd_ne n2, upd_ne n1, upd_ne n2]
    exact e
end L2.My

/-! W3: built-ins by name, stores into lists, products, the state that laws draw from. -/
namespace L2.My
open PySem PySem.Spec PyProof.Rows
section
variable {X : Cx} {K : PySem.W.Frag} {σ : L2.St} {H : Hp} {Q : VK} {te : TE} {tl : TA} {a p : Addr} {xs : List V} {i j : Int} {v : V}
def rInt : List V → Hp → VK → Prop := fun vs H Q => (∃ i, vs = [.int i] ∧ Q (.int i) H) ∨ ∃ k, vs = [.bl k] ∧ Q (.int (if k then 1 else 0)) H
theorem cn_int : CallR X (.type "int") rInt := call_int1
theorem w_int (q : Q (.int i) H) : rInt [.int i] H Q := .inl ⟨i, rfl, q⟩
theorem w_intB {b : Bool} (q : Q (.int (if b then 1 else 0)) H) : rInt [.bl b] H Q := .inr ⟨b, rfl, q⟩
def rAbs : List V → Hp → VK → Prop := fun vs H Q => ∃ i, vs = [.int i] ∧ Q (.int (if i < 0 then -i else i)) H
theorem cn_abs : CallR X (.builtin "abs") rAbs := call_abs
theorem w_abs (q : Q (.int (i.natAbs : Int)) H) : rAbs [.int i] H Q := ⟨i, rfl, by
  have e : (if i < 0 then -i else i) = (i.natAbs : Int) := by split <;> omega
  rw [e]; exact q⟩
def rLen (K : PySem.W.Frag) : List V → Hp → VK → Prop := fun vs H Q => ∃ x n, vs = [x] ∧ LenV K x H n ∧ Q (.int n) H
theorem cn_len : CallR X (.builtin "len") (rLen X.K) := call_len
theorem w_lenL (h : SqL K H a xs) (q : Q (.int (xs.length : Nat)) H) : rLen K [.ref a] H Q := ⟨_, _, rfl, .inl ⟨_, h, rfl⟩, q⟩
theorem w_lenT (h : SqT K H a xs) (q : Q (.int (xs.length : Nat)) H) : rLen K [.ref a] H Q := ⟨_, _, rfl, .inr ⟨_, h, rfl⟩, q⟩
def rListOf (K : PySem.W.Frag) : List V → Hp → VK → Prop := fun vs H Q => ∃ p ys, vs = [.ref p] ∧ (SqL K H p ys ∨ SqT K H p ys) ∧ ∀ l, H l = none → Q (.ref l) (upd H l (.lst ys))
theorem cn_list : CallR X (.type "list") (rListOf X.K) := call_list_of
theorem w_listL (h : SqL K H a xs) (q : ∀ l H2, H l = none → Same H H2 → H2 l = some (.lst xs) → Q (.ref l) H2) : rListOf K [.ref a] H Q := ⟨a, xs, rfl, .inl h, fun l hl => q l _ hl (Same.new hl) upd_same⟩
theorem w_listT (h : SqT K H a xs) (q : ∀ l H2, H l = none → Same H H2 → H2 l = some (.lst xs) → Q (.ref l) H2) : rListOf K [.ref a] H Q := ⟨a, xs, rfl, .inr h, fun l hl => q l _ hl (Same.new hl) upd_same⟩
def NewD (H : Hp) (Q : VK) : Prop := ∀ p, H p = none → Q (.ref p) (upd H p (.dK []))
theorem w_dnew (q : NewD H Q) : tDNewK σ H Q := q
theorem k_dnew (q : ∀ p H2, H p = none → Same H H2 → H2 p = some (.dK []) → Q (.ref p) H2) : NewD H Q := fun p hp => q p _ hp (Same.new hp) upd_same
/-- a slice of a list -/
def SlP (r : V → Option Int → Option Int → Hp → VK → Prop) (x : V) (lo hi : Option Int) (H : Hp) (Q : VK) : Prop := r x lo hi H Q
theorem w_sl {r : V → Option Int → Option Int → Hp → VK → Prop} {t1 t2 : TO} (q : te σ H fun x H1 => t1 σ H1 fun l H2 => t2 σ H2 fun u H3 => SlP r x l u H3 Q) : tSl r te t1 t2 σ H Q := q
theorem k_slL {lo hi : Option Int} (h : SqL K H a xs) (q : ∀ l H2, H l = none → Same H H2 → H2 l = some (.lst (cutV xs lo hi)) → Q (.ref l) H2) : SlP (rSlL K) (.ref a) lo hi H Q := ⟨a, xs, rfl, h, fun l hl => q l _ hl (Same.new hl) upd_same⟩
theorem w_poN {QO : Option Int → Hp → Prop} (q : QO none H) : tNoPart σ H QO := q
theorem w_poS {QO : Option Int → Hp → Prop} (q : te σ H fun x H1 => ∃ i, x = .int i ∧ QO (some i) H1) : tPart te σ H QO := q
theorem w_exI {p : Int → Prop} (q : p i) : ∃ k, V.int i = .int k ∧ p k := ⟨i, rfl, q⟩
/-- xs[i] = v -/
theorem w_gsub {to ti : TE} {t : TSet} {N : L2.St → Hp → Prop} (q : to σ H fun o H1 => ti σ H1 fun i H2 => t o i v H2 fun H3 => N σ H3) : gSub to ti t v σ H N := q
theorem w_setL {N : Hp → Prop} {n : Nat} (h : H a = some (.lst xs)) (e : ixN xs.length i = some n) (q : ∀ H2, SameX a H H2 → H2 a = some (.lst (xs.set n v)) → N H2) : rSetL (.ref a) (.int i) v H N :=
  ⟨a, xs, i, n, rfl, rfl, h, e, q _ (SameX.upd fun _ _ _ e => e) upd_same⟩
theorem w_yes {QB : Bool → Hp → Prop} (q : QB true H) : tYes σ H QB := q
/-- ways meet behind a statement -/
theorem w_cut {ts us : TS} {nx bk ct : L2.St → Hp → Prop} {rt : VK} (Mid : L2.St → Hp → Prop) (h : ts ⟨Mid, rt, bk, ct⟩ σ H) (q : ∀ σ' H', Mid σ' H' → us ⟨nx, rt, bk, ct⟩ σ' H') : C8.tCut ts us ⟨nx, rt, bk, ct⟩ σ H := ⟨Mid, h, q⟩
theorem w_cutE {ts us : TS} {nx bk ct : L2.St → Hp → Prop} {rt : VK} {σ' : L2.St} {H' : Hp} (h : ts ⟨fun σ1 H1 => σ1 = σ' ∧ H1 = H', rt, bk, ct⟩ σ H) (q : us ⟨nx, rt, bk, ct⟩ σ' H') : C8.tCut ts us ⟨nx, rt, bk, ct⟩ σ H := ⟨_, h, fun _ _ e => by rw [e.1, e.2]; exact q⟩
/-- products: one factor is small, or both together are not too large -/
def CMulS (i j : Int) : Prop := (-18446744073709551616 < i ∧ i < 18446744073709551616) ∨ (-18446744073709551616 < j ∧ j < 18446744073709551616) ∨ CMulW i j
theorem op_mulS : OpR X (binaryOp .Mult) (rI CMulS fun i j => .int (i * j)) := opI fun _ _ _ _ _ _ _ hc q => by
  rcases hc with h | h | h
  · exact mul_int q (CMul.ok (.inl h))
  · exact mul_int q (CMul.ok (.inr h))
  · exact mul_int q h.ok
theorem atI_ints {ns : List Int} {k : Int} (h0 : 0 ≤ k) (h1 : k < (ns.length : Int)) : ∃ z, atI (ns.map V.int) k = some (.int z) := by
  obtain ⟨n, rfl⟩ := Int.eq_ofNat_of_zero_le h0
  have hn : n < ns.length := by omega
  exact ⟨ns[n], atI_nat (by simp [hn])⟩
theorem cut_ints (ns : List Int) (lo hi : Option Int) : ∃ ms : List Int, cutV (ns.map V.int) lo hi = ms.map V.int := by
  unfold cutV
  exact ⟨((ns.drop (HT.sIx (ns.map V.int).length 0 lo)).take (HT.sIx (ns.map V.int).length (ns.map V.int).length hi - HT.sIx (ns.map V.int).length 0 lo)), by rw [List.map_take, List.map_drop]⟩
/-- a number that is not too great; omega doesn't see into it -/
def Bd (x : Int) : Prop := x.natAbs < 2 ^ 8000
/-! ### data compared -/
theorem dp_ints : ∀ ns : List Int, DpAll K H (ns.map V.int) (ns.map PyData.int)
  | [] => .nil
  | n :: ns => .cons (.int n) (dp_ints ns)
theorem can_ints : ∀ ns : List Int, PyData.canLayAll0 (ns.map PyData.int) = true
  | [] => rfl
  | n :: ns => by simp only [List.map_cons, PyData.canLayAll0, PyData.canLay0, can_ints ns, Bool.and_self]
theorem depth_ints : ∀ ns : List Int, PyData.depthAll (ns.map PyData.int) = 0
  | [] => rfl
  | n :: ns => by simp only [List.map_cons, PyData.depthAll, PyData.depth, depth_ints ns]; rfl
theorem eqv_ints : ∀ ns ms : List Int, PyData.eqvAll (ns.map PyData.int) (ms.map PyData.int) = decide (ns = ms)
  | [], [] => rfl
  | [], _ :: _ => rfl
  | _ :: _, [] => rfl
  | n :: ns, m :: ms => by
    simp only [List.map_cons, PyData.eqvAll, PyData.eqv, eqv_ints ns ms, List.cons.injEq, Bool.decide_and]
    rfl
theorem shaped_ints (ns : List Int) : SeqAt.shaped (.tuple (ns.map PyData.int)) = true := by
  simp only [SeqAt.shaped, PyData.canLay0, can_ints, PyData.depth, depth_ints]; decide
theorem w_eqT {b : Addr} {ns ms : List Int} (h1 : H a = some (.tup (ns.map V.int))) (h2 : H b = some (.tup (ms.map V.int))) (q : Q (.bl (decide (ns = ms))) H) : rEqD K (.ref a) (.ref b) H Q :=
  ⟨.tuple (ns.map .int), .tuple (ms.map .int), .tup (SqT.of h1) (dp_ints ns), .tup (SqT.of h2) (dp_ints ms), shaped_ints _, shaped_ints _, by rw [PyData.eqv, eqv_ints]; exact q⟩
/-- == of plain things: data of any depth, dicts -/
def rEqU (K : PySem.W.Frag) : R2 := fun x y H Q => rEqD K x y H Q ∨ rEqDA x y H Q
theorem op_eqU (hu : X.A.units + 64 < cLine) : OpR X (compareOp .Eq) (rEqU X.K) := (op_eqD hu).or (op_eq_dictA (by omega))
/-- a thing that == finds equal to itself -/
inductive Selfy (H : Hp) : V → Prop
  | non : Selfy H .non
  | int (i : Int) : Selfy H (.int i)
  | str (s : Str) (h : SeqAt.shaped (.str s) = true) : Selfy H (.str s)
  | lst (a : Addr) (ns : List Int) (e : H a = some (.lst (ns.map V.int))) : Selfy H (.ref a)
  | tup (a : Addr) (ns : List Int) (e : H a = some (.tup (ns.map V.int))) : Selfy H (.ref a)
  | dK (a : Addr) (e : H a = some (.dK [])) : Selfy H (.ref a)
theorem shaped_intsL (ns : List Int) : SeqAt.shaped (.list (ns.map PyData.int)) = true := by
  simp only [SeqAt.shaped, PyData.canLay0, can_ints, PyData.depth, depth_ints]; decide
theorem w_eqSelf (h : Selfy H v) (q : Q (.bl true) H) : rEqU K v v H Q := by
  have go : ∀ d, Dp K H v d → SeqAt.shaped d = true → rEqU K v v H Q := fun d hd sd => .inl ⟨d, d, hd, hd, sd, sd, by rw [SeqAt.eqv_refl d (SeqAt.canLay_of_shaped sd)]; exact q⟩
  cases h with
  | non => exact go _ .non (by decide +kernel)
  | int i => exact go _ (.int i) rfl
  | str s h => exact go _ (.str s) h
  | lst a ns e => exact go _ (.lst (SqL.of e) (dp_ints ns)) (shaped_intsL ns)
  | tup a ns e => exact go _ (.tup (SqT.of e) (dp_ints ns)) (shaped_ints ns)
  | dK a e => exact .inr ⟨a, a, [], [], rfl, rfl, e, e, rfl, (fun _ h => nomatch h), q⟩
/-- a thing of the law's own: a kind that is known, and if it is no int, one that is found equal to itself -/
structure Odd (c : Addr) (H : Hp) (v : V) : Prop where
  th : Th c H v
  eq : isI v = false → (∃ b, v = .bl b) ∨ isB v = false ∧ Selfy H v
theorem Odd.sx {c p : Addr} {H H' : Hp} (h : Odd c H v) (h3 : ∀ a, v = .ref a → a ≠ p) (s : SameX p H H') : Odd c H' v := by
  obtain ⟨h1, h2⟩ := h
  refine ⟨?_, fun z => ?_⟩
  · cases h1 with
    | non => exact .non
    | bl b => exact .bl b
    | int i => exact .int i
    | str s => exact .str s
    | lst a xs e => exact .lst a xs (s _ _ (h3 a rfl) e)
    | tup a xs e => exact .tup a xs (s _ _ (h3 a rfl) e)
    | dK a xs e => exact .dK a xs (s _ _ (h3 a rfl) e)
    | root a dx t r b e => exact .root a dx t r b (s _ _ (h3 a rfl) e)
  · rcases h2 z with h | ⟨hb, h⟩
    · exact .inl h
    · refine .inr ⟨hb, ?_⟩
      cases h with
      | non => exact .non
      | int i => exact .int i
      | str s h => exact .str s h
      | lst a ns e => exact .lst a ns (s _ _ (h3 a rfl) e)
      | tup a ns e => exact .tup a ns (s _ _ (h3 a rfl) e)
      | dK a e => exact .dK a (s _ _ (h3 a rfl) e)
theorem Odd.int {c : Addr} (i : Int) : Odd c H (.int i) := ⟨.int i, fun e => by cases e⟩
theorem w_Tself {α : Type} [DecidableEq α] {x : α} {A B : Prop} (q : A) : if decide (x = x) = true then A else B := by rw [decide_eq_true rfl]; exact iteT q
theorem w_Fself {α : Type} [DecidableEq α] {x : α} {A B : Prop} (q : B) : if (!decide (x = x)) = true then A else B := by rw [decide_eq_true rfl]; exact iteF q
theorem w_isB {b c : Bool} (q : Q (.bl (decide (b = c))) H) : rIsB (.bl b) (.bl c) H Q := ⟨b, c, rfl, rfl, q⟩
/-- the state that a law draws from stands at p, its cells at q -/
def StA (H : Hp) (p q : Addr) : Prop := ∃ (ns : List Int) (at_ pend : Int), H p = some (.lst [.ref q, .int at_, .int pend]) ∧ H q = some (.lst (ns.map V.int)) ∧ q ≠ p ∧ 0 ≤ at_ ∧ 0 ≤ pend
theorem StA.same {H H' : Hp} {p q : Addr} (h : StA H p q) (s : Same H H') : StA H' p q := by
  obtain ⟨ns, at_, pend, h1, h2, h3⟩ := h
  exact ⟨ns, at_, pend, s _ _ h1, s _ _ h2, h3⟩
theorem sz_lt {n : Nat} (h : n < 1000) : n < sizeLine := Nat.lt_of_lt_of_le h (by decide)
/-- a new object is another one -/
theorem StA.new {H : Hp} {p q b : Addr} (h : StA H p q) (e : H b = none) : b ≠ p ∧ b ≠ q := by
  obtain ⟨ns, at_, pend, h1, h2, _⟩ := h
  exact ⟨fun z => (by rw [z, h1] at e; cases e), fun z => (by rw [z, h2] at e; cases e)⟩
/-- a change elsewhere -/
theorem StA.other {H : Hp} {p q b : Addr} {o : HO} (h : StA H p q) (n : b ≠ p ∧ b ≠ q) : StA (upd H b o) p q := by
  obtain ⟨ns, at_, pend, h1, h2, h3⟩ := h
  exact ⟨ns, at_, pend, by rw [upd_ne (Ne.symm n.1)]; exact h1, by rw [upd_ne (Ne.symm n.2)]; exact h2, h3⟩
theorem StA.otherX {H H' : Hp} {p q b : Addr} (h : StA H p q) (n : b ≠ p ∧ b ≠ q) (s : SameX b H H') : StA H' p q := by
  obtain ⟨ns, at_, pend, h1, h2, h3⟩ := h
  exact ⟨ns, at_, pend, s _ _ (Ne.symm n.1) h1, s _ _ (Ne.symm n.2) h2, h3⟩
/-- another object than the state -/
theorem StA.ne {H : Hp} {p q b : Addr} {o : HO} (h : StA H p q) (e : H b = some o) (n : ∀ xs, o ≠ .lst xs) : b ≠ p := by
  obtain ⟨ns, at_, pend, h1, _⟩ := h
  exact ne_of e h1 (n _)
/-- a comprehension over a range whose turns draw: ints of which P holds -/
theorem k_lcDraw {st sc : Addr} {n : Int} {ws : List Nat} {slot : Nat} {te : TE} {P : Int → Prop} (h1 : -(2 ^ 62) ≤ n) (h2 : n ≤ 500) (hs : StA H st sc)
    (hw : ∀ z, wipe ((wipe σ ws).set slot (some (.int z))) ws = wipe σ ws)
    (turn : ∀ z H', StA H' st sc → SameX st H H' → ∀ N : VK, (∀ y H2, P y → SameX st H' H2 → StA H2 st sc → N (.int y) H2) → te ((wipe σ ws).set slot (some (.int z))) H' N)
    (hd : ∀ (D : Addr) (H' : Hp) (ms : List Int), H' D = some (.lst (ms.map V.int)) → ms.length = n.toNat → (∀ z ∈ ms, P z) → D ≠ st ∧ D ≠ sc → StA H' st sc → SameX st H H' → Q (.ref D) H') : CompR (gName slot) tYes te ws σ [.int n] H Q := by
  refine k_lcR (fun i D H' => H D = none ∧ ∃ ms : List Int, H' D = some (.lst (ms.map V.int)) ∧ ms.length = i ∧ (∀ z ∈ ms, P z) ∧ (D ≠ st ∧ D ≠ sc) ∧ StA H' st sc ∧ SameX st H H') h1 (by omega) (fun D hD => ⟨hD, [], upd_same, rfl, (fun _ h => nomatch h), hs.new hD, hs.same (Same.new hD), Same.x (Same.new hD)⟩) ?_ ?_
  · rintro i D H' hi ⟨hD, ms, e1, e2, e3, e4, e5, e6⟩
    refine ⟨hw _, ?_⟩
    refine w_yes (w_T rfl ?_)
    refine turn _ H' e5 e6 _ fun y H2 py s2 st2 => ?_
    refine ⟨_, s2 _ _ e4.1 e1, by rw [List.length_map, e2]; exact sz_lt (by omega), hD, ms ++ [y], by rw [List.map_append]; exact upd_same, by rw [List.length_append, e2]; rfl, ?_, e4, st2.other e4, fun b o nb e => ?_⟩
    · intro m hm
      rcases List.mem_append.mp hm with h | h
      · exact e3 m h
      · obtain rfl : m = y := by simpa using h
        exact py
    · rw [upd_ne (ne_of_none e hD)]
      exact s2 _ _ nb (e6 _ _ nb e)
  · rintro D H' ⟨hD, ms, e1, e2, e3, e4, e5, e6⟩
    exact hd D H' ms e1 e2 e3 e4 e5 e6
/-- a comprehension over a list of ints, without draws: ints again -/
theorem k_lcInts {p : Addr} {ns : List Int} {ws : List Nat} {slot : Nat} {te : TE} {f : Int → Int} (h : SqL K H p (ns.map V.int)) (hl : ns.length ≤ 500)
    (hw : ∀ z, wipe ((wipe σ ws).set slot (some (.int z))) ws = wipe σ ws) (hsame : ∀ H', Same H H' → SqL K H' p (ns.map V.int))
    (turn : ∀ z H', z ∈ ns → Same H H' → ∀ N : VK, N (.int (f z)) H' → te ((wipe σ ws).set slot (some (.int z))) H' N)
    (hd : ∀ D H', H D = none → Same H H' → H' D = some (.lst ((ns.map f).map V.int)) → Q (.ref D) H') : CompL K (gName slot) tYes te ws σ (.ref p) H Q := by
  refine k_lcL (xs := ns.map V.int) (fun i D H' => H D = none ∧ Same H H' ∧ H' D = some (.lst (((ns.take i).map f).map V.int))) h (fun D hD => ⟨hD, Same.new hD, upd_same⟩) (fun i D H' e => hsame H' e.2.1) ?_ ?_
  · rintro i x D H' hx ⟨hD, s1, e1⟩
    have hi : i < ns.length := by
      have := (List.getElem?_eq_some_iff.mp hx).1
      rwa [List.length_map] at this
    obtain rfl : x = V.int ns[i] := by
      rw [List.getElem?_map, List.getElem?_eq_getElem hi] at hx
      exact (Option.some.inj hx).symm
    refine ⟨hw _, ?_⟩
    refine w_yes (w_T rfl ?_)
    refine turn _ H' (List.getElem_mem hi) s1 _ ?_
    refine ⟨_, e1, by rw [List.length_map, List.length_map, List.length_take]; exact sz_lt (by omega), hD, fun b o e => ?_, ?_⟩
    · rw [upd_ne (ne_of_none e hD)]
      exact s1 b o e
    · have e : ns.take (i + 1) = ns.take i ++ [ns[i]] := by rw [List.take_add_one, List.getElem?_eq_getElem hi]; rfl
      rw [upd_same, e, List.map_append, List.map_append]
      rfl
  · rintro D H' ⟨hD, s1, e1⟩
    rw [List.length_map, List.take_length] at e1
    exact hd D H' hD s1 e1
end
end L2.My

/-! W4: isinstance of a caught own error that bears a field. -/
namespace PySem.W
open PySem PySem.Spec PySem.Calls PyProof.Rows
section
variable {prog : Program} {w : World} {A : Around} {E : Value → Shared → Prop} {s : Shared} {K : Frag} {x D : Addr} {ox od : Obj}
/-- what the class of such an error says -/
structure XiC (K : Frag) (D : Addr) : Prop where
  hga : findIn K (.ref D) "__getattribute__" = some (some (.builtin "BaseException.__getattribute__"))
  hgt : findIn K (.ref D) "__getattr__" = some none
  hsub : subIn K (.ref D) (.type "BaseException") = some true
  hdct : hasDictIn K D = true
  ha : findIn K (.ref D) "__class__" = some (some (.builtin "object.__class__"))
  hn : specialIn K (.builtin "object.__class__") "__get__" = some (some (.builtin "getset_descriptor.__get__"))
  htk : takesIn K (.builtin "object.__class__") = some true
  hm : mroIn K D (.type "object") = some true
theorem xi_class {Q : Option Value → Shared → Prop} (T : XiC K D) (X : K.In s.heap) (I : InstAt s.heap x ox D (some od)) (h : Q (some (.ref D)) { s with toks := s.toks + 1 }) : wpAny (model prog w) A (getAttr? (.ref x) "__class__") Q E s := by
  have fnd : findObj K D (some od) "__class__" = some (.bind (.builtin "getset_descriptor.__get__") (.builtin "object.__class__")) := findObj_data (by obtain ⟨cd, hc, _⟩ := any_some T.hdct; rw [hc]; rfl) T.ha T.hn T.htk
  obtain ⟨hp, g, d, t, os⟩ := s
  have l0 := I.type (M := model prog w)
  have l1 := looks_findIn (M := model prog w) X T.hga
  have l2 := looks_findIn (M := model prog w) X T.hgt
  have l3 := looks_find (M := model prog w) X I fnd
  have sb : Looks (model prog w) hp (isInstance (.ref x) (.type "BaseException")) true := l0.andThen (looks_subIn X T.hsub)
  have n0 : (false && onTheHeap (Value.builtin "BaseException.__getattribute__")) = false := rfl
  have n2 : (Value.builtin "BaseException.__getattribute__" == Value.builtin "object.__getattribute__") = false := by decide +kernel
  have n1 : (onTheHeap (Value.ref D) && Value.builtin "BaseException.__getattribute__" == Value.builtin "object.__getattribute__") = false := by rw [n2]; rfl
  unfold getAttr? getAttrBy? getAttrBy
  refine wpAny_bind (wpAny_mkText (wpAny_bind (wpAny_attempt (wpAny_holding (wpAny_bind (l0.at (wpAny_bind (l1.at ?_))))))))
  dsimp only
  rw [n1, if_neg Bool.false_ne_true]
  unfold getAttrByItsOwn hookBefore
  refine wpAny_bind ?_
  rw [if_pos (show onTheHeap (Value.ref D) = true from rfl)]
  refine l2.at (wpAny_bind (wpAny_attempt (wpAny_holding ?_)))
  unfold callGetattribute
  rw [n0, if_neg Bool.false_ne_true]
  unfold boundAndCalled
  rw [PySem.F.excAttr_ValueError.ga.bind (.ref x)]
  refine wpAny_bind (wpAny_pure ?_)
  show wpAny _ _ (call (.builtin "BaseException.__getattribute__") [.ref x, .str "__class__" t]) _ _ _
  refine wpAny_call (codeAny_call_builtin PySem.F.excAttr_ValueError.ga.plain PySem.F.entry_bexc_ga ?_)
  refine @check_slot (model prog w) _ _ ⟨hp, g, d, t + 1, os⟩ "BaseException.__getattribute__" "BaseException" "__getattribute__" (.ref x) [.str "__class__" t] [] _ (by decide +kernel) (by decide +kernel) sb (PySem.F.args_bexc_ga (.ref x) (.str "__class__" t)) ?_
  unfold Builtin.«object.__getattribute__»
  refine wpAny_bind (wpAny_of_eq (a := ((Value.ref x : Value), [Value.str "__class__" t])) (by first | rfl | (simp only [slotArgs]; rfl)) ?_)
  refine wpAny_bind (wpAny_pure (wpAny_bind (l0.at (wpAny_bind (l3.at ?_)))))
  show wpAny _ _ (holding [Value.builtin "object.__class__"] (call (.builtin "getset_descriptor.__get__") [.builtin "object.__class__", .ref x, .ref D]) >>= ret) _ _ _
  refine wpAny_bind (wpAny_holding (wpAny_call (class_get (s := ⟨hp, g, d, t + 1, os⟩) (ox := ox) (od := some od) X I T.hm ?_)))
  refine wpAny_pure ?_
  show wpAny _ _ (handedOut (.ref D)) _ _ _
  rw [handedOut_of (v := .ref D) rfl]
  first
    | exact wpAny_pure (wpAny_pure h)
    | exact wpAny_pure h
    | exact wpAny_pure (wpAny_bind (wpAny_pure (wpAny_pure h)))
theorem xi_kitx (T : XiC K D) : KitX K (.ref x) (.ref D) (fun h => ∃ ox od, InstAt h x ox D (some od)) where
  ty := fun _ _ _ ⟨_, _, I⟩ => I.type
  it := fun _ _ X _ => by
    obtain ⟨cdD, hcD, _⟩ := any_some T.hdct
    unfold clsIn at hcD
    split at hcD
    · rename_i c' d' cd' sl' ho
      intro A' Q' E' s' k q
      unfold isType loadHead
      exact wpAny_bind (wpAny_loadPart (k _ _ (X _ _ ho)) (wpAny_pure q))
    · cases hcD
  ne := fun h tp dd its n sl X htp => by
    obtain ⟨cdD, hcD, _⟩ := any_some T.hdct
    refine Bool.eq_false_iff.mpr fun q => ?_
    have e : D = tp := Value.ref.inj (beq_iff_eq.mp q)
    subst e
    unfold clsIn at hcD
    split at hcD
    · rename_i c' d' cd' sl' ho
      have z := (X _ _ ho).symm.trans htp
      cases z
    · cases hcD
  ca := fun X ⟨_, _, I⟩ k => xi_class T X I k
end
end PySem.W
namespace L2.My
open PySem PySem.Spec PyProof.Rows
/-- isinstance(e, c), e the own error that the suite holds -/
def rIsX (K : PySem.W.Frag) (D a : Addr) (cls : Value) (d : Option Addr) : List V → Hp → VK → Prop := fun xs H Q => ∃ (c : V) (cv : Value) (b : Bool) (dd : Addr) (fs : List (Str × V)), xs = [.ref a, c] ∧ cls = .ref D ∧ d = some dd ∧ H dd = some (.xd fs) ∧
  (∀ u, RelV c u → u = cv) ∧ PySem.W.kitOne K (.ref D) cv = some b ∧ Q (.bl b) H
theorem cn_isX {X : Cx} {a D : Addr} {cls : Value} {d : Option Addr} {oe : Obj} {pn : List (Addr × Obj)} (T : PySem.W.XiC X.K D) (hz : Zc cls d oe) (hf : ∃ vs, oe.data = .fields vs) : CallR (X.suite a ((a, oe) :: pn)) (.builtin "isinstance") (rIsX X.K D a cls d) := by
  intro pins s σ H xs us Q I r h
  obtain ⟨c, cv, b, dd, fs, rfl, rfl, rfl, ea, hcv, e, q⟩ := h
  obtain ⟨u1, u2, rfl, r1, r2⟩ := vals2 r
  cases (show u1 = Value.ref a from r1)
  have ec := hcv _ r2
  subst ec
  obtain ⟨hget, _⟩ := I.pin (a, oe) (List.mem_append_left _ List.mem_cons_self)
  obtain ⟨vs, hd⟩ := hf
  obtain ⟨mA, hns, hr⟩ := (show ObjOk X.prog X.w H s.heap dd (.xd fs) from I.hok dd _ ea)
  obtain ⟨od, ho, hl⟩ := lookIn_ns hns
  have J : PySem.W.InstAt s.heap a oe D (some od) := ⟨hget, hz.1, by unfold PySem.W.notCls; rw [hd] <;> rfl, by rw [hz.2]; exact ho⟩
  exact PySem.W.kia_one (PySem.W.xi_kitx T) I.kIn ⟨oe, od, J⟩ e (fun z => nomatch z) fun tk => ⟨.bl b, H, I.tok tk, rfl, q⟩
theorem w_isX {K : PySem.W.Frag} {D a : Addr} {d : Addr} {fs : List (Str × V)} {H : Hp} {Q : VK} {b : Bool} {C : Addr} (h : H d = some (.xd fs)) (k : PySem.W.kitOne K (.ref D) (.ref C) = some b) (q : Q (.bl b) H) : rIsX K D a (.ref D) (some d) [.ref a, .ref C] H Q :=
  ⟨.ref C, .ref C, b, d, fs, rfl, rfl, rfl, h, fun u r => r, k, q⟩
theorem w_isXT {K : PySem.W.Frag} {D a : Addr} {d : Addr} {fs : List (Str × V)} {H : Hp} {Q : VK} {b : Bool} {n : String} (h : H d = some (.xd fs)) (k : PySem.W.kitOne K (.ref D) (.type n) = some b) (q : Q (.bl b) H) : rIsX K D a (.ref D) (some d) [.ref a, .ty n] H Q :=
  ⟨.ty n, .type n, b, d, fs, rfl, rfl, rfl, h, fun u r => r, k, q⟩
/-- e.f in the suite: what is asked -/
def XfP (a : Addr) (cls : Value) (d : Option Addr) (C : Addr) (f : Str) (x : V) (H : Hp) (Q : VK) : Prop := x = .ref a ∧ cls = .ref C ∧ ∃ (dd : Addr) (fs : List (Str × V)) (v : V), d = some dd ∧ H dd = some (.xd fs) ∧ fs.lookup f = some v ∧ Q v H
theorem w_xf {a : Addr} {cls : Value} {d : Option Addr} {C : Addr} {f : Str} {te : TE} {σ : L2.St} {H : Hp} {Q : VK} (q : te σ H fun x H1 => XfP a cls d C f x H1 Q) : tXf a cls d C f te σ H Q := q
theorem k_xf {a d C : Addr} {f : Str} {v : V} {H : Hp} {Q : VK} (h : H d = some (.xd [(f, v)])) (q : Q v H) : XfP a (.ref C) (some d) C f (.ref a) H Q := ⟨rfl, rfl, d, _, v, rfl, h, by simp [List.lookup], q⟩
end L2.My

/-! W5: from what the head tells to what the walks ask. -/
namespace L2.My
open PySem PySem.Spec PyProof.Rows
theorem kit_eq {K : PySem.W.Frag} {t : Value} {C : Addr} (ic : PySem.W.isClsIn K C = true) (tc : PySem.W.typeIn K (.ref C) = some (.type "type")) : PySem.W.kitCls K t (.ref C) = PySem.W.subIn K t (.ref C) := by
  have e : ((PySem.W.clsIn K C).isSome && PySem.W.typeIn K (.ref C) == some (.type "type")) = true := by
    have h2' : (PySem.W.clsIn K C).isSome = true := ic
    rw [h2', tc] <;> rfl
  show (if ((PySem.W.clsIn K C).isSome && PySem.W.typeIn K (.ref C) == some (.type "type")) = true then PySem.W.subIn K t (.ref C) else none) = _
  rw [if_pos e]
theorem kit_ref {K : PySem.W.Frag} {t : Value} {C : Addr} (ic : PySem.W.isClsIn K C = true) (tc : PySem.W.typeIn K (.ref C) = some (.type "type")) (h : PySem.W.subIn K t (.ref C) = some true) : PySem.W.kitOne K t (.ref C) = some true := by
  unfold PySem.W.kitOne
  rw [kit_eq ic tc, h]
  split <;> rfl
theorem kit_ref0 {K : PySem.W.Frag} {t : Value} {C : Addr} (ic : PySem.W.isClsIn K C = true) (tc : PySem.W.typeIn K (.ref C) = some (.type "type")) (h : PySem.W.subIn K t (.ref C) = some false) (hn : (t == .ref C) = false) : PySem.W.kitOne K t (.ref C) = some false := by
  unfold PySem.W.kitOne
  rw [kit_eq ic tc, h, hn]
  rfl
theorem kit_type {K : PySem.W.Frag} {C : Addr} {T : String} {b : Bool} (km : PySem.W.kitMeta T = true) (h : PySem.W.subIn K (.ref C) (.type T) = some b) : PySem.W.kitOne K (.ref C) (.type T) = some b := by
  unfold PySem.W.kitOne
  have e : ((Value.ref C) == Value.type T) = false := rfl
  rw [e, if_neg Bool.false_ne_true]
  show (if PySem.W.kitMeta T = true then PySem.W.subIn K (.ref C) (.type T) else none) = some b
  rw [if_pos km, h]
theorem exm_mk {K : PySem.W.Frag} {S : Addr} (h1 : PySem.W.subIn K (.ref S) (.type "BaseException") = some true) (h2 : PySem.W.isClsIn K S = true) (h3 : PySem.W.typeIn K (.ref S) = some (.type "type")) (h4 : PySem.W.subIn K (.ref S) (.ref S) = some true) :
    PySem.W.exmOne K (.ref S) (.ref S) = some true := by
  have e1 : (PySem.W.subIn K (.ref S) (.type "BaseException") == some true) = true := by rw [h1] <;> rfl
  show (if (PySem.W.subIn K (.ref S) (.type "BaseException") == some true) = true then PySem.W.kitCls K (.ref S) (.ref S) else none) = some true
  rw [if_pos e1, kit_eq h2 h3, h4]
theorem ki_mk {K : PySem.W.Frag} {c : Addr} (ty : Cls K c) (ha : PySem.W.findIn K (.ref c) "__class__" = some (some (.builtin "object.__class__"))) (hm : PySem.W.mroIn K c (.type "object") = some true)
    (ic : PySem.W.isClsIn K c = true) (tc : PySem.W.typeIn K (.ref c) = some (.type "type")) (s1 : PySem.W.mroIn K c (.type "int") = some false) (s2 : PySem.W.mroIn K c (.type "bool") = some false) : KiT K c where
  ty := ty
  ha := ha
  hn := rfl
  htk := rfl
  hm := hm
  i := kit_type (by decide +kernel) s1
  b := kit_type (by decide +kernel) s2
  cc := by
    unfold PySem.W.kitOne
    have e : ((Value.ref c) == Value.ref c) = true := by simp
    rw [e, if_pos rfl]
  k1 := kit_ref0 ic tc rfl rfl
  k2 := kit_ref0 ic tc rfl rfl
  k3 := kit_ref0 ic tc rfl rfl
  k4 := kit_ref0 ic tc rfl rfl
  k5 := kit_ref0 ic tc rfl rfl
  k6 := kit_ref0 ic tc rfl rfl
  k7 := kit_ref0 ic tc rfl rfl
  n1 := rfl
  n2 := rfl
  n3 := rfl
  n4 := rfl
  n5 := rfl
  n6 := rfl
  n7 := rfl
  s1 := s1
  s2 := s2
theorem ref_ne {K : PySem.W.Frag} {a b : Addr} (h1 : PySem.W.mroIn K a (.ref a) = some true) (h2 : PySem.W.mroIn K a (.ref b) = some false) : (Value.ref a == Value.ref b) = false := by
  cases e : (Value.ref a == Value.ref b) with
  | false => rfl
  | true =>
    have : Value.ref a = Value.ref b := by simpa using e
    cases this
    rw [h1] at h2
    cases h2
theorem cx_no {P : Program} {w : World} {H : Hp} {s s' : Shared} {e : Value} (z : L2.CX P w [] H s (fun _ _ _ => False) e s') : False := by
  obtain ⟨_, _, _, _, _, _, _, _, _, _, _, _, h⟩ := z
  exact h
end L2.My

/-! W6: own + - * of instances and ints, both ways. -/
namespace L2.My
open PySem PySem.Spec PyProof.Rows PySem.SeqAt
open AutoSeq1 (wpAny_loadPart')
/-! ### own + - * of two instances, of one and an int, and of an int and one -/
theorem int_add_declines (b : Int) (u : Tok) (l C dx : Addr) :
    Meets (Builtin.«int.__add__» ⟨[.int b u, .ref l], []⟩) (fun _ R s => s.heap.get? l = some (PySem.W.instObj C dx) ∧ R (.ok (.ret .notImplemented)) s) :=
  .of_wp fun prog w A R s h => by obtain ⟨hp, g, d, tk, os⟩ := s; obtain ⟨hl, h⟩ := h; wp_walk using wpAny_loadPart' hl, wpAny_load hl; exact ⟨_, rfl, h⟩
theorem int_sub_declines (b : Int) (u : Tok) (l C dx : Addr) :
    Meets (Builtin.«int.__sub__» ⟨[.int b u, .ref l], []⟩) (fun _ R s => s.heap.get? l = some (PySem.W.instObj C dx) ∧ R (.ok (.ret .notImplemented)) s) :=
  .of_wp fun prog w A R s h => by obtain ⟨hp, g, d, tk, os⟩ := s; obtain ⟨hl, h⟩ := h; wp_walk using wpAny_loadPart' hl, wpAny_load hl; exact ⟨_, rfl, h⟩
theorem int_mul_declines (b : Int) (u : Tok) (l C dx : Addr) :
    Meets (Builtin.«int.__mul__» ⟨[.int b u, .ref l], []⟩) (fun _ R s => s.heap.get? l = some (PySem.W.instObj C dx) ∧ R (.ok (.ret .notImplemented)) s) :=
  .of_wp fun prog w A R s h => by obtain ⟨hp, g, d, tk, os⟩ := s; obtain ⟨hl, h⟩ := h; wp_walk using wpAny_loadPart' hl, wpAny_load hl; exact ⟨_, rfl, h⟩

/-- int op instance: the instance's own reflected def -/
theorem bin_refl {prog : Program} {w : World} {A : Around} {E : Value → Shared → Prop} {s : Shared} {K : PySem.W.Frag} {x C f g : Addr} {ox : Obj} {od : Option Obj} {op : Operator} {b : Int} {t : Tok} {id : String} {Q : Value → Shared → Prop}
    (X : K.In s.heap) (I : PySem.W.InstAt s.heap x ox C od) (sf : PySem.W.selfFirst K C = true) (hsub : PySem.W.subIn K (.ref C) (.type "int") = some false)
    (hg : PySem.W.findIn K (.ref C) (PySem.dunder op.info.2) = some (some (.ref g))) (hs : PySem.W.findIn K (.ref C) (PySem.dunderR op.info.2) = some (some (.ref f))) (hf : PySem.W.isFn K (.ref f) = true)
    (fi : fillsNumberSlot (.type "int") op.info.2 = pure true) (sl : Slot "int" (PySem.dunder op.info.2) id)
    (hd : ∀ Q' : Value → Shared → Prop, Q' .notImplemented s → wpAny (model prog w) A (call (.builtin id) [.int b t, .ref x]) Q' E s)
    (h : wpAny (model prog w) A (call (.ref f) [.ref x, .int b t]) (PySem.W.CmpBack Q) E s) : wpAny (model prog w) A (binaryOp op (.int b t) (.ref x)) Q E s := by
  obtain ⟨cd, rest, e1, e2⟩ := PySem.W.ksp_first sf
  have fC : PySem.W.Looks (model prog w) s.heap (fillsNumberSlot (.ref C) op.info.2) true := PySem.W.fills_K X e1 e2 hg
  have hne : (Value.type "int" == Value.ref C) = false := rfl
  have ti : s.TypeIs (.int b t) "int" := typeIs_int s b t
  have one : wpAny (model prog w) A (binaryOp1 op.info.2 (.int b t) (.ref x)) (fun r s' => ∃ v, r = some v ∧ Q v s') E s := by
    unfold binaryOp1
    refine wpAny_bind (wpAny_typeOf ti (wpAny_bind (I.type.here ?_)))
    rw [fi]
    refine wpAny_bind (wpAny_pure ?_)
    simp only [hne, Bool.false_eq_true, if_false]
    refine wpAny_bind (fC.here ?_)
    simp only [Bool.and_self, if_true]
    refine wpAny_bind ((PySem.W.looks_subIn X hsub).here ?_)
    simp only [Bool.false_eq_true, if_false, Bool.and_self, Bool.not_false, if_true]
    refine wpAny_bind ?_
    show wpAny _ _ (pure false) _ _ _
    refine wpAny_pure ?_
    simp only [Bool.false_eq_true, if_false]
    refine wpAny_bind (wpAny_tryMethod_declines ti sl (hd _ ⟨rfl, ?_⟩))
    refine wpAny_bind (wpAny_mono (PySem.W.ksp_try X I hs hf h) (fun r s' z => ?_) fun _ _ e => e)
    obtain ⟨v, rfl, hq⟩ := z
    exact wpAny_bind (wpAny_rule (wpAny_pure ⟨_, rfl, hq⟩))
  unfold binaryOp
  refine wpAny_holding ?_
  refine wpAny_bind (wpAny_mono one (fun r s' z => ?_) fun _ _ e => e)
  obtain ⟨v, rfl, hq⟩ := z
  exact wpAny_pure hq
section
variable {X : Cx} {C : Addr} {k k' j : Nat} {ps ps' : List Str} {sp spr : Sp} {E : XK} {m mr : Str}
/-- x op y, where one of both is an instance of C and the other one an instance of C or an int -/
def rOwnB (C : Addr) (sp spr : Sp) (E : XK) : R2 := fun x y H Q =>
  (∃ a dx fs, x = .ref a ∧ H a = some (.ins C dx fs) ∧ ((∃ i, y = .int i) ∨ ∃ a' dx' fs', y = .ref a' ∧ H a' = some (.ins C dx' fs')) ∧ sp [x, y] H Q E) ∨
  (∃ i a dx fs, x = .int i ∧ y = .ref a ∧ H a = some (.ins C dx fs) ∧ spr [y, x] H Q E)
/-- what an own operator needs of the class -/
structure OwnB (K : PySem.W.Frag) (C : Addr) : Prop where
  sf : PySem.W.selfFirst K C = true
  si : PySem.W.subIn K (.ref C) (.type "int") = some false
theorem op_ownB {op : Operator} {id : String} {fo ro : Option Value} (T : OwnB X.K C) (fi : fillsNumberSlot (.type "int") op.info.2 = pure true) (sl : Slot "int" (PySem.dunder op.info.2) id)
    (ef : PySem.W.findIn X.K (.type "int") (PySem.dunder op.info.2) = some fo) (er : PySem.W.findIn X.K (.type "int") (PySem.dunderR op.info.2) = some ro)
    (hd : ∀ {A : Around} {s : Shared} {E' : Value → Shared → Prop} (b : Int) (t : Tok) (l dx : Addr) (Q' : Value → Shared → Prop), s.heap.get? l = some (PySem.W.instObj C dx) → Q' .notImplemented s → wpAny (model X.prog X.w) A (call (.builtin id) [.int b t, .ref l]) Q' E' s)
    (h : HasM X.prog X.w X.K X.mg X.base C (PySem.dunder op.info.2) k ps sp) (h' : HasM X.prog X.w X.K X.mg X.base C (PySem.dunderR op.info.2) k' ps' spr) (hr : Room j X.A) (hx : Passes (L2.CX X.prog X.w) X E) (hj : k ≤ j := by decide) (hj' : k' ≤ j := by decide) :
    OpR X (binaryOp op) (rOwnB C sp spr E) := by
  obtain ⟨f, fd, Fo, hm, hb⟩ := h
  obtain ⟨f', fd', Fo', hm', hb'⟩ := h'
  intro pins s σ H x y v u Q I rx ry hh
  obtain ⟨m, hF⟩ := I.fr
  rcases hh with ⟨a, dx, fs, rfl, ha, hy, q⟩ | ⟨i, a, dx, fs, rfl, rfl, ha, q⟩
  · cases (show v = Value.ref a from rx)
    obtain ⟨mA, O, _⟩ := ins_get I.hok ha
    obtain ⟨od, J, _⟩ := O.look
    have cl : wpAny (model X.prog X.w) X.A (call (.ref f) [.ref a, u]) (PySem.W.CmpBack (EP X pins σ Q)) X.xe s := by
      refine wpAny_mono (run_fn Fo (hr.mono hj) hb .nil hx I (.cons rx (.cons ry .nil)) q) (fun w s' z => ?_) fun _ _ x => x
      obtain ⟨z', H', I', rz, qz⟩ := z
      exact SlX.cmpback rz ⟨z', H', I', rz, qz⟩
    rcases hy with ⟨i, rfl⟩ | ⟨a', dx', fs', rfl, ha'⟩
    · obtain ⟨t, rfl⟩ := (show ∃ t, u = Value.int i t from ry)
      exact PySem.W.ksp_binT hF I.ok.mod.kin J rfl T.sf hm.at_ hm.fn hm'.at_ (.inr ⟨_, rfl⟩) ef er rfl cl
    · cases (show u = Value.ref a' from ry)
      obtain ⟨mA', O', _⟩ := ins_get I.hok ha'
      obtain ⟨od', J', _⟩ := O'.look
      exact PySem.W.binop_K hF I.ok.mod.kin J J'.type T.sf hm.at_ hm.fn cl
  · obtain ⟨t, rfl⟩ := (show ∃ t, v = Value.int i t from rx)
    cases (show u = Value.ref a from ry)
    obtain ⟨mA, O, _⟩ := ins_get I.hok ha
    obtain ⟨od, J, _⟩ := O.look
    refine bin_refl I.kIn J T.sf T.si hm.at_ hm'.at_ hm'.fn fi sl (fun Q' hq => hd i t a dx Q' O.obj hq) ?_
    refine wpAny_mono (run_fn Fo' (hr.mono hj') hb' .nil hx I (.cons ry (.cons rx .nil)) q) (fun w s' z => ?_) fun _ _ x => x
    obtain ⟨z', H', I', rz, qz⟩ := z
    exact SlX.cmpback rz ⟨z', H', I', rz, qz⟩
theorem op_addB (T : OwnB X.K C) (h : HasM X.prog X.w X.K X.mg X.base C "__add__" k ps sp) (h' : HasM X.prog X.w X.K X.mg X.base C "__radd__" k' ps' spr) (hr : Room j X.A) (hx : Passes (L2.CX X.prog X.w) X E) (hj : k ≤ j := by decide) (hj' : k' ≤ j := by decide) :
    OpR X (binaryOp .Add) (rOwnB C sp spr E) :=
  op_ownB (op := .Add) T F.fills_int_add F.slot_int_add rfl rfl (fun b t l dx Q' hl hq => call_meets F.slot_int_add (typeIs_int _ b t) F.entry_int_add (F.args_int_add_2 _ _) (int_add_declines b t l C dx) ⟨hl, hq⟩) h h' hr hx hj hj'
theorem op_subB (T : OwnB X.K C) (h : HasM X.prog X.w X.K X.mg X.base C "__sub__" k ps sp) (h' : HasM X.prog X.w X.K X.mg X.base C "__rsub__" k' ps' spr) (hr : Room j X.A) (hx : Passes (L2.CX X.prog X.w) X E) (hj : k ≤ j := by decide) (hj' : k' ≤ j := by decide) :
    OpR X (binaryOp .Sub) (rOwnB C sp spr E) :=
  op_ownB (op := .Sub) T F.fills_int_sub F.slot_int_sub rfl rfl (fun b t l dx Q' hl hq => call_meets F.slot_int_sub (typeIs_int _ b t) F.entry_int_sub (by first | exact F.args_int_sub_2 _ _ | (unfold argsOk; kernel_rfl)) (int_sub_declines b t l C dx) ⟨hl, hq⟩) h h' hr hx hj hj'
theorem op_mulB (T : OwnB X.K C) (h : HasM X.prog X.w X.K X.mg X.base C "__mul__" k ps sp) (h' : HasM X.prog X.w X.K X.mg X.base C "__rmul__" k' ps' spr) (hr : Room j X.A) (hx : Passes (L2.CX X.prog X.w) X E) (hj : k ≤ j := by decide) (hj' : k' ≤ j := by decide) :
    OpR X (binaryOp .Mult) (rOwnB C sp spr E) :=
  op_ownB (op := .Mult) T F.fills_int_mul F.slot_int_mul rfl rfl (fun b t l dx Q' hl hq => call_meets F.slot_int_mul (typeIs_int _ b t) F.entry_int_mul (F.args_int_mul_2 _ _) (int_mul_declines b t l C dx) ⟨hl, hq⟩) h h' hr hx hj hj'
/-- x op y, where x is an instance of C and y is one or an int -/
def rOwnL (C : Addr) (sp : Sp) (E : XK) : R2 := fun x y H Q =>
  ∃ a dx fs, x = .ref a ∧ H a = some (.ins C dx fs) ∧ ((∃ i, y = .int i) ∨ ∃ a' dx' fs', y = .ref a' ∧ H a' = some (.ins C dx' fs')) ∧ sp [x, y] H Q E
theorem op_ownL {op : Operator} {fo ro : Option Value} (T : OwnB X.K C) (hrc : ∃ g, PySem.W.findIn X.K (.ref C) (PySem.dunderR op.info.2) = some (some (.ref g)))
    (ef : PySem.W.findIn X.K (.type "int") (PySem.dunder op.info.2) = some fo) (er : PySem.W.findIn X.K (.type "int") (PySem.dunderR op.info.2) = some ro)
    (h : HasM X.prog X.w X.K X.mg X.base C (PySem.dunder op.info.2) k ps sp) (hr : Room j X.A) (hx : Passes (L2.CX X.prog X.w) X E) (hj : k ≤ j := by decide) :
    OpR X (binaryOp op) (rOwnL C sp E) := by
  obtain ⟨f, fd, Fo, hm, hb⟩ := h
  obtain ⟨g, hg⟩ := hrc
  intro pins s σ H x y v u Q I rx ry hh
  obtain ⟨m, hF⟩ := I.fr
  obtain ⟨a, dx, fs, rfl, ha, hy, q⟩ := hh
  cases (show v = Value.ref a from rx)
  obtain ⟨mA, O, _⟩ := ins_get I.hok ha
  obtain ⟨od, J, _⟩ := O.look
  have cl : wpAny (model X.prog X.w) X.A (call (.ref f) [.ref a, u]) (PySem.W.CmpBack (EP X pins σ Q)) X.xe s := by
    refine wpAny_mono (run_fn Fo (hr.mono hj) hb .nil hx I (.cons rx (.cons ry .nil)) q) (fun w s' z => ?_) fun _ _ x => x
    obtain ⟨z', H', I', rz, qz⟩ := z
    exact SlX.cmpback rz ⟨z', H', I', rz, qz⟩
  rcases hy with ⟨i, rfl⟩ | ⟨a', dx', fs', rfl, ha'⟩
  · obtain ⟨t, rfl⟩ := (show ∃ t, u = Value.int i t from ry)
    exact PySem.W.ksp_binT hF I.ok.mod.kin J rfl T.sf hm.at_ hm.fn hg (.inr ⟨_, rfl⟩) ef er rfl cl
  · cases (show u = Value.ref a' from ry)
    obtain ⟨mA', O', _⟩ := ins_get I.hok ha'
    obtain ⟨od', J', _⟩ := O'.look
    exact PySem.W.binop_K hF I.ok.mod.kin J J'.type T.sf hm.at_ hm.fn cl
theorem op_addL (T : OwnB X.K C) (hrc : ∃ g, PySem.W.findIn X.K (.ref C) "__radd__" = some (some (.ref g))) (h : HasM X.prog X.w X.K X.mg X.base C "__add__" k ps sp) (hr : Room j X.A) (hx : Passes (L2.CX X.prog X.w) X E) (hj : k ≤ j := by decide) :
    OpR X (binaryOp .Add) (rOwnL C sp E) := op_ownL (op := .Add) T hrc rfl rfl h hr hx hj
theorem op_subL (T : OwnB X.K C) (hrc : ∃ g, PySem.W.findIn X.K (.ref C) "__rsub__" = some (some (.ref g))) (h : HasM X.prog X.w X.K X.mg X.base C "__sub__" k ps sp) (hr : Room j X.A) (hx : Passes (L2.CX X.prog X.w) X E) (hj : k ≤ j := by decide) :
    OpR X (binaryOp .Sub) (rOwnL C sp E) := op_ownL (op := .Sub) T hrc rfl rfl h hr hx hj
theorem op_mulL (T : OwnB X.K C) (hrc : ∃ g, PySem.W.findIn X.K (.ref C) "__rmul__" = some (some (.ref g))) (h : HasM X.prog X.w X.K X.mg X.base C "__mul__" k ps sp) (hr : Room j X.A) (hx : Passes (L2.CX X.prog X.w) X E) (hj : k ≤ j := by decide) :
    OpR X (binaryOp .Mult) (rOwnL C sp E) := op_ownL (op := .Mult) T hrc rfl rfl h hr hx hj
end
theorem w_ifx {t : TT} {ta tb : TE} {σ : L2.St} {H : Hp} {Q : VK} (q : t σ H fun c H1 => if c = true then ta σ H1 Q else tb σ H1 Q) : tIf t ta tb σ H Q := q
theorem w_truB {K : PySem.W.Frag} {b : Bool} {H : Hp} {Q : Bool → Hp → Prop} (q : Q b H) : ∃ k, TruV K (.bl b) H k ∧ Q k H := ⟨b, rfl, q⟩
theorem w_truI {K : PySem.W.Frag} {i : Int} {H : Hp} {Q : Bool → Hp → Prop} (q : Q (i != 0) H) : ∃ k, TruV K (.int i) H k ∧ Q k H := ⟨_, rfl, q⟩
/-! ### numbers that are not too great -/
def Bw (n : Nat) (x : Int) : Prop := x.natAbs < 2 ^ n
theorem Bw.mul {m n : Nat} {x y : Int} (hx : Bw m x) (hy : Bw n y) : Bw (m + n) (x * y) := by
  unfold Bw at *
  rw [Int.natAbs_mul, Nat.pow_add]
  exact Nat.mul_lt_mul'' hx hy
theorem Bw.mono {m n : Nat} {x : Int} (hx : Bw m x) (h : m ≤ n) : Bw n x := Nat.lt_of_lt_of_le hx (Nat.pow_le_pow_right (by decide) h)
theorem Bw.add {m n : Nat} {x y : Int} (hx : Bw m x) (hy : Bw n y) : Bw (max m n + 1) (x + y) := by
  have h1 := hx.mono (Nat.le_max_left m n)
  have h2 := hy.mono (Nat.le_max_right m n)
  unfold Bw at *
  rw [Nat.pow_succ]
  have := Int.natAbs_add_le x y
  omega
theorem Bw.neg {m : Nat} {x : Int} (hx : Bw m x) : Bw m (-x) := by unfold Bw at *; rw [Int.natAbs_neg]; exact hx
theorem Bw.sub {m n : Nat} {x y : Int} (hx : Bw m x) (hy : Bw n y) : Bw (max m n + 1) (x - y) := by rw [Int.sub_eq_add_neg]; exact hx.add hy.neg
theorem Bw.two : Bw 2 2 := by unfold Bw; decide
theorem Bw.zero : Bw 1 0 := by unfold Bw; decide
theorem Bw.one : Bw 1 1 := by unfold Bw; decide
theorem Bw.bd {n : Nat} {x : Int} (h : Bw n x) (hn : Nat.ble n 8000 = true) : Bd x := Nat.lt_of_lt_of_le h (Nat.pow_le_pow_right (by decide) (Nat.le_of_ble_eq_true hn))
theorem bwm {m n : Nat} {x y : Int} (hx : Bw m x) (hy : Bw n y) (h : (Nat.ble m 8000 && Nat.ble n 8000) = true) : CMulS x y := by
  simp only [Bool.and_eq_true] at h
  have hx := hx.bd h.1
  have hy := hy.bd h.2
  exact .inr (.inr (wide_mul hx hy (by decide) (by decide) (by decide)))
theorem bw_of {x : Int} {n k : Nat} (h : x.natAbs ≤ n) (hn : Nat.blt n (2 ^ k) = true) : Bw k x := Nat.lt_of_le_of_lt h (by simpa using hn)
end L2.My

/-! W7: math.isqrt of great numbers. -/
namespace L2.My
open PySem PySem.Spec PyProof.Rows
section
variable {X : Cx}
/-- the whole of the square root -/
def sqr (a : Int) : Int := ((Float64.isqrt a.toNat : Nat) : Int)
theorem sqr_spec {a : Int} (h : 0 ≤ a) : 0 ≤ sqr a ∧ sqr a * sqr a ≤ a ∧ a < (sqr a + 1) * (sqr a + 1) := by
  obtain ⟨h1, h2⟩ := Float64.isqrt_spec a.toNat
  have e : ((a.toNat : Nat) : Int) = a := by omega
  unfold sqr
  refine ⟨by omega, ?_, ?_⟩
  · have := Int.ofNat_le.mpr h1
    rw [Int.natCast_mul, e] at this
    exact this
  · have := Int.ofNat_lt.mpr h2
    rw [Int.natCast_mul, e] at this
    exact this
def rSq : List V → Hp → VK → Prop := fun vs H Q => ∃ a : Int, vs = [.int a] ∧ 0 ≤ a ∧ Bw 8000 a ∧ Q (.int (sqr a)) H
theorem cr_isqrt : CallR X (.builtin "math.isqrt") rSq := by
  intro pins s σ H vs us Q I r h
  obtain ⟨a, rfl, h0, hb, q⟩ := h
  cases r with
  | cons ra r =>
    cases r
    obtain ⟨t, rfl⟩ := ra
    have hl : a.toNat.log2 < 8000 := PySem.Flt.log2_lt_of (by decide) (by unfold Bw at hb; omega)
    have g := PySem.W.mg_run_isqrt a t (by omega) (by omega) (by omega)
    exact call_function_meets PySem.W.MGF.kind_isqrt PySem.W.MGF.plain_isqrt PySem.W.MGF.entry_isqrt (PySem.W.MGF.args_isqrt _) g.meets ⟨.int _, H, I.tok _, ⟨_, rfl⟩, q⟩
end
end L2.My

/-! W8: for a, b in zip(l, m). -/
namespace L2.My
open PySem PySem.Spec PyProof.Rows
section
variable {K : PySem.W.Frag} {σ : St} {H : Hp} {g : TG} {tb : TS} {D : Ends} {a b : Addr} {xs ys : List V} {ta : TA}
theorem for_zip (Pv : Nat → St → Hp → Prop) (h0 : Pv 0 σ H) (hl : ∀ i σ H, i ≤ xs.length → Pv i σ H → SqL K H a xs ∧ SqL K H b ys) (e : xs.length = ys.length)
    (hs : ∀ i x y σ H T H', xs[i]? = some x → ys[i]? = some y → Pv i σ H → H T = none → Same H H' → H' T = some (.tup [x, y]) → g (.ref T) σ H' fun σ2 H2 => tb ⟨Pv (i + 1), D.rt, D.nx, Pv (i + 1)⟩ σ2 H2) (hd : ∀ σ H, Pv xs.length σ H → D.nx σ H) :
    ∃ W : Nat → Nat → St → Hp → Prop, (∃ m, W 0 m σ H) ∧ ∀ i m σ H, W i m σ H → (Itz K a b).stop i H ∧ D.nx σ H ∨ (Itz K a b).go i H ∧ ∃ N, (∀ σ' H', N σ' H' → ∃ m', m' < m ∧ W (i + 1) m' σ' H') ∧
      ∀ x H', (Itz K a b).yld i H x H' → g x σ H' fun σ2 H2 => tb ⟨N, D.rt, D.nx, N⟩ σ2 H2 := by
  refine ⟨fun i m σ H => Pv i σ H ∧ m + i = xs.length, ⟨xs.length, h0, rfl⟩, fun i m σ H ⟨q, em⟩ => ?_⟩
  obtain ⟨l1, l2⟩ := hl i σ H (by omega) q
  rcases Nat.lt_or_ge i xs.length with h | h
  · right
    have ex : xs[i]? = some xs[i] := List.getElem?_eq_getElem h
    have ey : ys[i]? = some (ys[i]'(by omega)) := List.getElem?_eq_getElem (by omega)
    refine ⟨⟨xs, ys, _, _, l1, l2, ex, ey⟩, Pv (i + 1), fun σ' H' q' => ⟨m - 1, by omega, q', by omega⟩, ?_⟩
    rintro x H' ⟨T, x', y', rfl, hT, rfl, h1, h2⟩
    exact hs i x' y' σ H T _ (h1 xs l1) (h2 ys l2) q hT (Same.new hT) upd_same
  · left
    have : i = xs.length := by omega
    subst this
    exact ⟨⟨xs, ys, l1, l2, .inl (Nat.le_refl _)⟩, hd σ H q⟩
def ForZ (K : PySem.W.Frag) (g : TG) (tb : TS) (D : Ends) (σ : St) (vs : List V) (H : Hp) : Prop := tFor (iZip K fun _ H Q => Q vs H) g tb D σ H
theorem w_forZ (q : ta σ H fun vs H1 => ForZ K g tb D σ vs H1) : tFor (iZip K ta) g tb D σ H := q
theorem k_forZ {nx bk ct : L2.St → Hp → Prop} {rt : VK} (Pv : Nat → St → Hp → Prop) (hx : SqL K H a xs) (hy : SqL K H b ys) (e : xs.length = ys.length) (h0 : Pv 0 σ H) (hl : ∀ i σ H, Pv i σ H → SqL K H a xs ∧ SqL K H b ys)
    (hs : ∀ i x y σ H T H', xs[i]? = some x → ys[i]? = some y → Pv i σ H → H T = none → Same H H' → H' T = some (.tup [x, y]) → g (.ref T) σ H' fun σ2 H2 => tb ⟨Pv (i + 1), rt, nx, Pv (i + 1)⟩ σ2 H2) (hd : ∀ σ H, Pv xs.length σ H → nx σ H) :
    ForZ K g tb ⟨nx, rt, bk, ct⟩ σ [.ref a, .ref b] H :=
  ⟨a, b, xs, ys, rfl, hx, hy, for_zip (D := ⟨nx, rt, bk, ct⟩) Pv h0 (fun i σ H _ q => hl i σ H q) e hs hd⟩
theorem ix_seqZ {X : Cx} {K : PySem.W.Frag} (h : X.K = K) : IxR X (rIx K) := h ▸ ix_seq
end
end L2.My

/-! W9: plain things, tuples of ints, data of any depth, all(), slices and sums of tuples. -/
namespace L2.My
open PySem PySem.Spec PyProof.Rows
/-- a thing that is no instance -/
inductive Plain (H : Hp) : V → Prop
  | non : Plain H .non
  | bl (b : Bool) : Plain H (.bl b)
  | int (i : Int) : Plain H (.int i)
  | str (s : Str) : Plain H (.str s)
  | lst (a : Addr) (xs : List V) (e : H a = some (.lst xs)) : Plain H (.ref a)
  | tup (a : Addr) (xs : List V) (e : H a = some (.tup xs)) : Plain H (.ref a)
  | dK (a : Addr) (kvs : List (L2.Key × V)) (e : H a = some (.dK kvs)) : Plain H (.ref a)
theorem Plain.same {H H' : Hp} {v : V} (h : Plain H v) (s : Same H H') : Plain H' v := by
  cases h with
  | non => exact .non
  | bl b => exact .bl b
  | int i => exact .int i
  | str s => exact .str s
  | lst a xs e => exact .lst a xs (s _ _ e)
  | tup a xs e => exact .tup a xs (s _ _ e)
  | dK a xs e => exact .dK a xs (s _ _ e)
theorem Plain.th {c : Addr} {H : Hp} {v : V} (h : Plain H v) : Th c H v := by
  cases h with
  | non => exact .non
  | bl b => exact .bl b
  | int i => exact .int i
  | str s => exact .str s
  | lst a xs e => exact .lst a xs e
  | tup a xs e => exact .tup a xs e
  | dK a xs e => exact .dK a xs e
def isTu (H : Hp) : V → Bool
  | .ref a => match H a with
    | some (.tup _) => true
    | _ => false
  | _ => false
theorem isTu_tup {H : Hp} {a : Addr} {xs : List V} (e : H a = some (.tup xs)) : isTu H (.ref a) = true := by
  show (match H a with | some (.tup _) => true | _ => false) = true
  rw [e]
theorem isTu_lst {H : Hp} {a : Addr} {xs : List V} (e : H a = some (.lst xs)) : isTu H (.ref a) = false := by
  show (match H a with | some (.tup _) => true | _ => false) = false
  rw [e]
theorem isTu_dK {H : Hp} {a : Addr} {xs : List (L2.Key × V)} (e : H a = some (.dK xs)) : isTu H (.ref a) = false := by
  show (match H a with | some (.tup _) => true | _ => false) = false
  rw [e]
theorem Plain.ty {K : PySem.W.Frag} {H : Hp} {v : V} (h : Plain H v) : ∃ t, TyX K H v t ∧ PySem.W.kitOne K t (.type "int") = some (isI v || isB v) ∧ PySem.W.kitOne K t (.type "bool") = some (isB v) ∧ PySem.W.kitOne K t (.type "tuple") = some (isTu H v) := by
  have kb : ∀ (a b : String) (r : Bool), kitB a b = some r → PySem.W.kitOne K (.type a) (.type b) = some r := fun _ _ _ h => kit_ty h
  cases h with
  | non => exact ⟨_, .base .non, kb "NoneType" "int" false (by decide +kernel), kb "NoneType" "bool" false (by decide +kernel), kb "NoneType" "tuple" false (by decide +kernel)⟩
  | bl b => exact ⟨_, .base (.bl b), kb "bool" "int" true (by decide +kernel), kb "bool" "bool" true (by decide +kernel), kb "bool" "tuple" false (by decide +kernel)⟩
  | int i => exact ⟨_, .base (.int i), kb "int" "int" true (by decide +kernel), kb "int" "bool" false (by decide +kernel), kb "int" "tuple" false (by decide +kernel)⟩
  | str s => exact ⟨_, .base (.str s), kb "str" "int" false (by decide +kernel), kb "str" "bool" false (by decide +kernel), kb "str" "tuple" false (by decide +kernel)⟩
  | lst a xs e => exact ⟨_, .base (.lst e), kb "list" "int" false (by decide +kernel), kb "list" "bool" false (by decide +kernel), by rw [isTu_lst e]; exact kb "list" "tuple" false (by decide +kernel)⟩
  | tup a xs e => exact ⟨_, .base (.tup e), kb "tuple" "int" false (by decide +kernel), kb "tuple" "bool" false (by decide +kernel), by rw [isTu_tup e]; exact kb "tuple" "tuple" true (by decide +kernel)⟩
  | dK a xs e => exact ⟨_, .base (.dK e), kb "dict" "int" false (by decide +kernel), kb "dict" "bool" false (by decide +kernel), by rw [isTu_dK e]; exact kb "dict" "tuple" false (by decide +kernel)⟩
section
variable {K : PySem.W.Frag} {σ : L2.St} {H : Hp} {Q : VK} {a b : Addr} {xs ys : List V} {te : TE} {ws : List Nat} {g : TG} {tt : TT} {v : V}
/-- a raised class that a clause's class is no base of -/
theorem exm_no {K : PySem.W.Frag} {S D : Addr} (h1 : PySem.W.mroIn K D (.type "BaseException") = some true) (h2 : PySem.W.isClsIn K D = true) (h3 : PySem.W.typeIn K (.ref D) = some (.type "type")) (h4 : PySem.W.mroIn K S (.ref D) = some false) :
    PySem.W.exmOne K (.ref S) (.ref D) = some false := by
  have e1 : (PySem.W.subIn K (.ref D) (.type "BaseException") == some true) = true := by
    have : PySem.W.subIn K (.ref D) (.type "BaseException") = some true := h1
    rw [this] <;> rfl
  show (if (PySem.W.subIn K (.ref D) (.type "BaseException") == some true) = true then PySem.W.kitCls K (.ref S) (.ref D) else none) = some false
  rw [if_pos e1, kit_eq h2 h3]
  exact h4
theorem w_all {bs : List Bool} (h : SqL K H a (bs.map V.bl)) (q : Q (.bl (bs.all id)) H) : rAll K [.ref a] H Q := ⟨a, bs, rfl, h, q⟩
/-- a slice of a tuple that is not the whole -/
theorem k_slT {lo hi : Option Int} (h : H a = some (.tup xs)) (n : ¬ (HT.sIx xs.length 0 lo = 0 ∧ HT.sIx xs.length xs.length hi = xs.length)) (q : ∀ p H2, H p = none → Same H H2 → H2 p = some (.tup (cutV xs lo hi)) → Q (.ref p) H2) : SlP (rSlA K) (.ref a) lo hi H Q :=
  ⟨a, xs, rfl, SqT.of h, fun z => absurd z n, fun _ p hp => q p _ hp (Same.new hp) upd_same⟩
/-- t + u, both not empty -/
theorem w_catT (h1 : H a = some (.tup xs)) (h2 : H b = some (.tup ys)) (n1 : xs ≠ []) (n2 : ys ≠ []) (hl : Nat.ble (xs.length + ys.length) 1000 = true) (q : ∀ p H2, H p = none → Same H H2 → H2 p = some (.tup (xs ++ ys)) → Q (.ref p) H2) : rCatA K (.ref a) (.ref b) H Q :=
  ⟨a, b, xs, ys, rfl, rfl, SqT.of h1, SqT.of h2, sz1000 (Nat.le_of_ble_eq_true hl), fun z => absurd z n1, fun _ z => absurd z n2, fun _ _ p hp => q p _ hp (Same.new hp) upd_same⟩
/-- t + u, any -/
theorem w_catA (h1 : H a = some (.tup xs)) (h2 : H b = some (.tup ys)) (hl : Nat.ble (xs.length + ys.length) 1000 = true) (q : ∀ p H2, Same H H2 → H2 p = some (.tup (xs ++ ys)) → Q (.ref p) H2) : rCatA K (.ref a) (.ref b) H Q :=
  ⟨a, b, xs, ys, rfl, rfl, SqT.of h1, SqT.of h2, sz1000 (Nat.le_of_ble_eq_true hl), fun z => q b H (Same.refl _) (by rw [h2, z, List.nil_append]), fun _ z => q a H (Same.refl _) (by rw [h1, z, List.append_nil]), fun _ _ p hp => q p _ (Same.new hp) upd_same⟩
theorem k_slA {lo hi : Option Int} (h : H a = some (.tup xs)) (q : ∀ p H2, Same H H2 → H2 p = some (.tup (cutV xs lo hi)) → Q (.ref p) H2) : SlP (rSlA K) (.ref a) lo hi H Q :=
  ⟨a, xs, rfl, SqT.of h, fun z => q a H (Same.refl _) (by
    have : cutV xs lo hi = xs := by
      unfold cutV
      rw [z.1, z.2, List.drop_zero, Nat.sub_zero, List.take_length]
    rw [h, this]), fun _ p hp => q p _ (Same.new hp) upd_same⟩
/-- [..] * k -/
theorem w_rep {k : Int} (h : H a = some (.lst xs)) (k0 : -(2 ^ 63) ≤ k) (k1 : k < 2 ^ 63) (hl : Nat.ble (xs.length * k.toNat) 1000 = true) (q : ∀ p H2, H p = none → Same H H2 → H2 p = some (.lst (List.replicate k.toNat xs).flatten) → Q (.ref p) H2) : rRep (.ref a) (.int k) H Q :=
  ⟨a, k, xs, rfl, rfl, h, k0, k1, sz1000 (Nat.le_of_ble_eq_true hl), fun p hp => q p _ hp (Same.new hp) upd_same⟩
/-- tuple(list) -/
def rTupOf (K : PySem.W.Frag) : List V → Hp → VK → Prop := fun xs H Q => ∃ p ys, xs = [.ref p] ∧ ((SqL K H p ys ∧ ∀ l, H l = none → Q (.ref l) (upd H l (.tup ys))) ∨ (SqT K H p ys ∧ Q (.ref p) H))
theorem cn_tuple {X : Cx} : CallR X (.type "tuple") (rTupOf X.K) := call_tuple_of
theorem w_tupL (h : H a = some (.lst xs)) (q : ∀ p H2, H p = none → Same H H2 → H2 p = some (.tup xs) → Q (.ref p) H2) : rTupOf K [.ref a] H Q := ⟨a, xs, rfl, .inl ⟨SqL.of h, fun l hl => q l _ hl (Same.new hl) upd_same⟩⟩
/-- xs.append(y) -/
theorem w_append {l : Addr} {y : V} (h : H l = some (.lst xs)) (hl : xs.length < 1000) (q : ∀ H2, SameX l H H2 → H2 l = some (.lst (xs ++ [y])) → Q .non H2) : rAppend (.ref l) [y] H Q :=
  ⟨l, xs, y, rfl, rfl, h, Nat.lt_of_lt_of_le hl (by decide), q _ (SameX.upd fun _ _ _ e => e) upd_same⟩
/-- a, b, c, d = t -/
theorem k_tup4 {T : Addr} {x y z u : V} {σ' : L2.St} {i j k l : Nat} {N : L2.St → Hp → Prop} {n : Nat} (hT : H T = some (.tup [x, y, z, u])) (hn : n = 4) (hσ : (((σ.set i (some x)).set j (some y)).set k (some z)).set l (some u) = σ') (q : N σ' H) :
    gTup K n (gCons (gName i) (gCons (gName j) (gCons (gName k) (gCons (gName l) gNil)))) (.ref T) σ H N := by
  subst hσ
  exact ⟨T, [x, y, z, u], rfl, SqT.of hT, by rw [hn]; rfl, x, [y, z, u], rfl, y, [z, u], rfl, z, [u], rfl, u, [], rfl, rfl, q⟩
theorem k_tupl2 {T : Addr} {x y : V} {σ' : L2.St} {i j : Nat} {N : L2.St → Hp → Prop} {n : Nat} (hT : H T = some (.tup [x, y])) (hn : n = 2) (hσ : (σ.set i (some x)).set j (some y) = σ') (q : N σ' H) : gTup K n (gCons (gName i) (gCons (gName j) gNil)) (.ref T) σ H N := by
  subst hσ
  exact ⟨T, [x, y], rfl, SqT.of hT, by rw [hn]; rfl, x, [y], rfl, y, [], rfl, rfl, q⟩
/-- a comprehension over a tuple whose turns tell flags and change nothing -/
theorem k_lcFlags {f : V → Bool} {slot : Nat} (h : H a = some (.tup xs)) (hl : xs.length ≤ 500) (hw : ∀ x, wipe ((wipe σ ws).set slot (some x)) ws = wipe σ ws)
    (turn : ∀ x H', x ∈ xs → Same H H' → ∀ N : VK, N (.bl (f x)) H' → te ((wipe σ ws).set slot (some x)) H' N)
    (hd : ∀ D H', H D = none → Same H H' → H' D = some (.lst ((xs.map f).map V.bl)) → Q (.ref D) H') : CompT K (gName slot) tYes te ws σ (.ref a) H Q := by
  refine ⟨a, rfl, ⟨_, SqT.of h⟩, fun D hD => lc_tup (xs := xs) (fun i H' => Same H H' ∧ H' D = some (.lst (((xs.take i).map f).map V.bl))) ⟨Same.new hD, upd_same⟩ (fun i H' _ e => SqT.of (e.1 _ _ h)) (fun i x H' hx e => ?_) (fun H' e => ?_)⟩
  · have hi : i < xs.length := (List.getElem?_eq_some_iff.mp hx).1
    obtain rfl : xs[i] = x := by rw [List.getElem?_eq_getElem hi] at hx; exact Option.some.inj hx
    refine ⟨hw _, ?_⟩
    refine w_yes (w_T rfl ?_)
    refine turn _ H' (List.getElem_mem hi) e.1 _ ?_
    refine ⟨_, e.2, by rw [List.length_map, List.length_map, List.length_take]; exact sz_lt (by omega), fun b o eb => ?_, ?_⟩
    · rw [upd_ne (ne_of_none eb hD)]
      exact e.1 b o eb
    · have e2 : xs.take (i + 1) = xs.take i ++ [xs[i]] := by rw [List.take_add_one, List.getElem?_eq_getElem hi]; rfl
      rw [upd_same, e2, List.map_append, List.map_append]
      rfl
  · have e2 := e.2
    rw [List.take_length] at e2
    exact hd D H' hD e.1 e2
theorem w_lcTT {tl : TE} (q : tl σ H fun x H1 => CompT K g tt te ws σ x H1 Q) : tLc (iTup K tl) g tt te ws σ H Q := q
/-- a thing of data, not deep -/
structure Data (K : PySem.W.Frag) (H : Hp) (v : V) (d : PyData) : Prop where
  dp : Dp K H v d
  lay : d.canLay0 = true
  dep : d.depth ≤ 10
theorem sqL_same {H H' : Hp} {a : Addr} {xs : List V} (h : H a = some (.lst xs)) (s : Same H H') : SqL K H' a xs := SqL.of (s _ _ h)
theorem eq_same {d : PyData} (h : d.canLay0 = true) : PyData.eqv d d = true := SeqAt.eqv_refl d h
end
/-! ### zip of two tuples -/
section
variable {K : PySem.W.Frag} {σ : St} {H : Hp} {g : TG} {tb : TS} {D : Ends} {a b : Addr} {xs ys : List V} {ta : TA}
def ForZT (K : PySem.W.Frag) (g : TG) (tb : TS) (D : Ends) (σ : St) (vs : List V) (H : Hp) : Prop := tFor (RZ.iZipA K fun _ H Q => Q vs H) g tb D σ H
theorem w_forZT (q : ta σ H fun vs H1 => ForZT K g tb D σ vs H1) : tFor (RZ.iZipA K ta) g tb D σ H := q
theorem for_zipT (Pv : Nat → St → Hp → Prop) (h0 : Pv 0 σ H) (hl : ∀ i σ H, i ≤ xs.length → Pv i σ H → SqT K H a xs ∧ SqT K H b ys) (e : xs.length = ys.length)
    (hs : ∀ i x y σ H T H', xs[i]? = some x → ys[i]? = some y → Pv i σ H → H T = none → Same H H' → H' T = some (.tup [x, y]) → g (.ref T) σ H' fun σ2 H2 => tb ⟨Pv (i + 1), D.rt, D.nx, Pv (i + 1)⟩ σ2 H2) (hd : ∀ σ H, Pv xs.length σ H → D.nx σ H) :
    ∃ W : Nat → Nat → St → Hp → Prop, (∃ m, W 0 m σ H) ∧ ∀ i m σ H, W i m σ H → (RZ.ItzT K a b).stop i H ∧ D.nx σ H ∨ (RZ.ItzT K a b).go i H ∧ ∃ N, (∀ σ' H', N σ' H' → ∃ m', m' < m ∧ W (i + 1) m' σ' H') ∧
      ∀ x H', (RZ.ItzT K a b).yld i H x H' → g x σ H' fun σ2 H2 => tb ⟨N, D.rt, D.nx, N⟩ σ2 H2 := by
  refine ⟨fun i m σ H => Pv i σ H ∧ m + i = xs.length, ⟨xs.length, h0, rfl⟩, fun i m σ H ⟨q, em⟩ => ?_⟩
  obtain ⟨l1, l2⟩ := hl i σ H (by omega) q
  rcases Nat.lt_or_ge i xs.length with h | h
  · right
    have ex : xs[i]? = some xs[i] := List.getElem?_eq_getElem h
    have ey : ys[i]? = some (ys[i]'(by omega)) := List.getElem?_eq_getElem (by omega)
    refine ⟨⟨xs, ys, _, _, l1, l2, ex, ey⟩, Pv (i + 1), fun σ' H' q' => ⟨m - 1, by omega, q', by omega⟩, ?_⟩
    rintro x H' ⟨T, x', y', rfl, hT, rfl, h1, h2⟩
    exact hs i x' y' σ H T _ (h1 xs l1) (h2 ys l2) q hT (Same.new hT) upd_same
  · left
    have : i = xs.length := by omega
    subst this
    exact ⟨⟨xs, ys, l1, l2, .inl (Nat.le_refl _)⟩, hd σ H q⟩
theorem k_forZT {nx bk ct : L2.St → Hp → Prop} {rt : VK} (Pv : Nat → St → Hp → Prop) (hx : H a = some (.tup xs)) (hy : H b = some (.tup ys)) (e : xs.length = ys.length) (h0 : Pv 0 σ H) (hl : ∀ i σ H, Pv i σ H → SqT K H a xs ∧ SqT K H b ys)
    (hs : ∀ i x y σ H T H', xs[i]? = some x → ys[i]? = some y → Pv i σ H → H T = none → Same H H' → H' T = some (.tup [x, y]) → g (.ref T) σ H' fun σ2 H2 => tb ⟨Pv (i + 1), rt, nx, Pv (i + 1)⟩ σ2 H2) (hd : ∀ σ H, Pv xs.length σ H → nx σ H) :
    ForZT K g tb ⟨nx, rt, bk, ct⟩ σ [.ref a, .ref b] H :=
  ⟨a, b, xs, ys, rfl, .inr ⟨SqT.of hx, SqT.of hy, for_zipT (D := ⟨nx, rt, bk, ct⟩) Pv h0 (fun i σ H _ q => hl i σ H q) e hs hd⟩⟩
end
/-- what is no list stays -/
def Kps (H H' : Hp) : Prop := ∀ b o, (∀ xs, o ≠ .lst xs) → H b = some o → H' b = some o
theorem Kps.refl (H : Hp) : Kps H H := fun _ _ _ h => h
theorem Kps.trans {A B C : Hp} (h : Kps A B) (k : Kps B C) : Kps A C := fun b o n e => k b o n (h b o n e)
theorem Kps.same {A B : Hp} (h : Same A B) : Kps A B := fun b o _ e => h b o e
theorem Kps.sx {A B : Hp} {l : Addr} {ys : List V} (hl : A l = some (.lst ys)) (h : SameX l A B) : Kps A B := fun b o n e => h b o (ne_of e hl (n _)) e
theorem Kps.st {A B : Hp} {st sc : Addr} (hs : StA A st sc) (h : SameX st A B) : Kps A B := fun b o n e => h b o (hs.ne e n) e
theorem Kps.tup {A B : Hp} (h : Kps A B) {a : Addr} {xs : List V} (e : A a = some (.tup xs)) : B a = some (.tup xs) := h _ _ (by intro xs z; cases z) e
/-! ### xs.append(e), a <= b <= c -/
def LBm (K : PySem.W.Frag) (x : V) (H : Hp) (N : Prop) : Prop := tyV K "list" x H ∧ N
theorem w_bm {K : PySem.W.Frag} {r : V → List V → Hp → VK → Prop} {to : TE} {t : TA} {σ : L2.St} {H : Hp} {Q : VK} (q : to σ H fun x H1 => LBm K x H1 (t σ H1 fun xs H2 => r x xs H2 Q)) : tBM K "list" r to t σ H Q := q
theorem k_bm {K : PySem.W.Frag} {a : Addr} {xs : List V} {H : Hp} {N : Prop} (h : H a = some (.lst xs)) (q : N) : LBm K (.ref a) H N := ⟨.inl ⟨rfl, _, SqL.of h⟩, q⟩
theorem w_chain {r r' : R2} {ta tb tc : TE} {σ : L2.St} {H : Hp} {Q : VK} (q : ta σ H fun x H1 => tb σ H1 fun y H2 => r x y H2 fun z H3 => ∃ k, z = .bl k ∧ (if k = true then tc σ H3 fun w' H4 => r' y w' H4 Q else Q (.bl false) H3)) : tChain r r' ta tb tc σ H Q := q
/-- o.m(e, ..) where the fragment is told: a suite's context bears the caught error, its fragment is the same -/
theorem pe_bmZ {X : Cx} {K : PySem.W.Frag} {o e : Expr} {es : List Expr} {to : TE} {t : TA} {m : Str} {ap cp : Pos} {T id : String} {r : V → List V → Hp → VK → Prop} (hK : X.K = K)
    (pa : PlainAttrs T) (sl : Slot T m id) (ht : typeOf (.builtin id) = pure (.type "method_descriptor")) (hm : MtR X id r) (ho : PE X o to) (ha : PA X (e :: es) t)
    (h1 : attributeBase o m X.env (eval o X.env) = eval o X.env := by rfl)
    (h2 : ((backTo cp (starEach (e :: es) X.env)).all (fun x => !x.1) && (backToKw cp (keywordEach [] X.env)).all (fun x => x.1.isSome) && decide ((e :: es).length + ([] : List Keyword).length + (if ([] : List Keyword).isEmpty then 0 else 1) < 30)) = true := by rfl)
    (h3 : (ap.endLine == cp.line) = true := by rfl) (h4 : starEach (e :: es) X.env = (false, eval e X.env) :: starEach es X.env := by rfl) (h5 : (backTo cp (starEach es X.env)).any (·.1) = false := by rfl) :
    PE X (.Call (.Attribute o m ap) (e :: es) [] cp) (tBM K T r to t) := by
  subst hK
  exact pe_bm pa sl ht hm ho ha h1 h2 h3 h4 h5
end L2.My

/-! W10: xs[i] += e; == of two lists of the same things; try with several clauses 'except C as n'. -/
namespace L2.My
open PySem PySem.Spec PyProof.Rows
section
variable {X : Cx} {H : Hp} {Q : VK} {a b : Addr} {xs : List V}
/-- the read of xs[i] += e -/
def rGetL : R2 := fun o i H Q => ∃ p ys k v, o = .ref p ∧ i = .int k ∧ H p = some (.lst ys) ∧ 0 ≤ k ∧ atI ys k = some v ∧ Q v H
theorem get_list : PGet X rGetL := by
  intro pins s σ H o i ov iv Q I ro ri ⟨p, ys, k, v, eo, ei, hp, k0, hv, q⟩
  subst eo ei
  cases ro
  obtain ⟨tk, rfl⟩ := ri
  obtain ⟨its, rv, pl, sz⟩ := I.list (SqL.of hp)
  obtain ⟨j, j1, j2, j3, -, j5⟩ := atI_get hv
  obtain ⟨w, ew, rw'⟩ := rv.get j2
  have big := line63
  have ej : k.toNat = j := by
    have j1' := j1
    rw [seqIndex_of k0 j5] at j1'
    exact Option.some.inj j1'
  exact wpAny_getItem_list pl.isList k0 (by omega) (by rw [ej]; simpa using ew) ⟨v, H, I, rw', q⟩
theorem w_getL {k : Int} {v : V} (h : H a = some (.lst xs)) (k0 : 0 ≤ k) (e : atI xs k = some v) (q : Q v H) : rGetL (.ref a) (.int k) H Q := ⟨a, xs, k, v, rfl, rfl, h, k0, e, q⟩
theorem w_augS {to ti te : TE} {tget : V → V → Hp → VK → Prop} {tip : TIp} {tset : TSet} {σ : L2.St} {H : Hp} {nx bk ct : L2.St → Hp → Prop} {rt : VK}
    (q : to σ H fun o H1 => ti σ H1 fun i H2 => tget o i H2 fun x H3 => te σ H3 fun y H4 => tip x y H4 fun z H5 => tset o i z H5 fun H6 => nx σ H6) : tAugS to ti te tget tip tset ⟨nx, rt, bk, ct⟩ σ H := q
/-- both sides are lists of the same objects, one by one -/
def rEqIds : R2 := fun x y H Q => ∃ (l m : Addr) (as : List Addr), x = .ref l ∧ y = .ref m ∧ H l = some (.lst (as.map V.ref)) ∧ H m = some (.lst (as.map V.ref)) ∧ Q (.bl true) H
theorem refs_same {as : List Addr} : ∀ {us us' : List Value}, Vals (as.map V.ref) us → Vals (as.map V.ref) us' → us = us' := by
  induction as with
  | nil => intro us us' h h'; cases h; cases h'; rfl
  | cons p as ih =>
    intro us us' h h'
    cases h with
    | cons r t =>
      cases h' with
      | cons r' t' =>
        cases r
        cases r'
        rw [ih t t']
theorem op_eqIds (hu : X.A.units < cLine) : OpR X (compareOp .Eq) rEqIds := by
  intro pins s σ H x y v u Q I rx ry ⟨l, m, as, ex, ey, hl, hm, q⟩
  subst ex ey
  cases rx
  cases ry
  obtain ⟨its, rv, pl, -⟩ := I.list (SqL.of hl)
  obtain ⟨its', rv', pl', -⟩ := I.list (SqL.of hm)
  obtain rfl := refs_same rv rv'
  refine SeqAt.eq_listAt (e := fun _ => true) pl.isList pl'.isList rfl hu (fun j h1 h2 => SeqAt.EqAt.same _) ?_
  rw [show (List.range its.toArray.size).all (fun _ => true) = true from List.all_eq_true.mpr fun _ _ => rfl]
  exact ⟨.bl true, H, I, rfl, q⟩
theorem w_eqIds {as : List Addr} (h1 : H a = some (.lst (as.map V.ref))) (h2 : H b = some (.lst (as.map V.ref))) (q : Q (.bl true) H) : rEqIds (.ref a) (.ref b) H Q := ⟨a, b, as, rfl, rfl, h1, h2, q⟩
end
/-! ### several clauses 'except C as n' -/
/-- one clause: the class, the name's slot, the suite's reading -/
structure Clause where
  c : Value
  i : Nat
  ts : Addr → Value → Option Addr → TS
/-- the ends of a suite whose name goes behind it -/
def goneE (D : Ends) (i : Nat) : Ends := { nx := fun σ H => D.nx (σ.set i none) H, rt := D.rt, bk := fun σ H => D.bk (σ.set i none) H, ct := fun σ H => D.ct (σ.set i none) H }
def wClauses (K : PySem.W.Frag) (Wo : WX) (D : Ends) : List Clause → WX
  | [] => Wo
  | k :: r => fun cls d σ H => ∃ b, PySem.W.exmOne K cls k.c = some b ∧ (b = true → ∀ a, H a = none → k.ts a cls d (goneE D k.i) (σ.set k.i (some (.ref a))) H) ∧ (b = false → wClauses K Wo D r cls d σ H)
inductive ClausesOk (X : Cx) : List ExceptHandler → List Clause → Prop
  | nil : ClausesOk X [] []
  | cons {x n : Str} {c : Value} {i : Nat} {ts : Addr → Value → Option Addr → TS} {st : Stmt} {sts : List Stmt} {np hp : Pos} {hs : List ExceptHandler} {ks : List Clause} (nd : X.N.Nodup) (at_ : X.N[i]? = some n) (loc : X.env.kindOf n = some .local) (nm : Names X x c)
      (su : ∀ (a : Addr) (oe : Obj) (cls : Value) (d : Option Addr) (pn : List (Addr × Obj)), Zc cls d oe → (∃ vs, oe.data = .fields vs) → PSs (X.suite a ((a, oe) :: pn)) (st :: sts) (ts a cls d)) (more : ClausesOk X hs ks) :
      ClausesOk X (.ExceptHandler (some (.Name x np)) (some n) (st :: sts) hp :: hs) (⟨c, i, ts⟩ :: ks)
section
variable {X : Cx} {body : List Stmt} {h0 : ExceptHandler} {hs : List ExceptHandler} {ks : List Clause} {pos : Pos} {tb : WX → TS} {Wo : WX}
theorem ps_try_clauses (stk : X.stack = X.env :: X.outer) (frm : X.env.frame = some X.env.locals) (tk : Takes X Wo)
    (bd : ∀ (W : WX) (pn : List (Addr × Obj)) (xe : Value → Shared → Prop), Takes (X.tr pn xe) W → PassesOwn (model X.prog X.w) X.A X.env xe → PSs (X.tr pn xe) body (tb W)) (cl : ClausesOk X (h0 :: hs) ks) :
    PS X (.Try body (h0 :: hs) [] [] pos) (fun D σ H => tb (wClauses X.K Wo D ks) D σ H) := by
  refine ⟨fun pins s σ H D I wish => wpAny_Try_except ?_⟩
  have good := I.ok
  have frs0 : X.A.frames = some (X.env :: X.outer) := good.frames.trans (by rw [stk])
  refine wpAny_mono ((bd (wClauses X.K Wo D ks) (X.pn ++ pins) (fun e s1 => wpAny (model X.prog X.w) X.A (noteFrame e X.env) (fun _ s2 => wpAny (model X.prog X.w) X.A (setFlight e none) (fun _ s3 => wpAny (model X.prog X.w) X.A (handleBy e X.env (h0 :: hs)) (SP X pins D) X.xe s3) X.xe s2) X.xe s1)
    (fun u s1 air => ?_) PassesOwn.looking).run [] s σ H D (I.toTry _) wish) (fun f s1 out => ?_) (fun _ _ z => z)
  · obtain ⟨a, B, s0, pins1, σ1, H1, cls, d, rfl, J0, ground, upTo, sky0, free, sameOs, bare, wants⟩ := air
    have J : Inv X pins σ1 H1 s0 := J0.ofTry good
    rw [stk] at sky0
    show wpAny _ X.A (noteFrame (.ref a) X.env) _ _ _
    refine Sky.land Zc.steady frs0 frm sky0 fun g fly up1 => ?_
    have upAll := upTo.trans up1
    have JL : Inv X pins σ1 H1 { s1 with heap := g } := J.landed ground fly.1 upAll sameOs bare
    obtain ⟨oe, fs, atA, isZ, dat⟩ := fly.there
    have out0 : a ∉ frs (X.env :: X.outer) := fun mem => by
      obtain ⟨_, o2, at2, notF⟩ := fly.2.2.1.mem mem
      rw [atA] at at2
      cases at2
      exact notF _ dat
    have outL : a ≠ X.env.locals := fun z => out0 (List.mem_filterMap.mpr ⟨X.env, List.mem_cons_self, by rw [frm, z]⟩)
    have outF : a ∉ X.fs := fun mem => by
      obtain ⟨ev, mv, qv⟩ := List.mem_filterMap.mp mem
      exact out0 (List.mem_filterMap.mpr ⟨ev, List.mem_cons_of_mem _ mv, qv⟩)
    have JS := JL.suite atA dat free outL outF
    have each : ∀ {hs' : List ExceptHandler} {ks' : List Clause}, ClausesOk X hs' ks' → wClauses X.K Wo D ks' cls d σ1 H1 → wpAny (model X.prog X.w) X.A (handleBy (.ref a) X.env hs') (SP X pins D) X.xe { s1 with heap := g } := by
      intro hs' ks' ok'
      induction ok' with
      | nil =>
        intro last
        obtain ⟨q1, q2, q3, oe', fs', T, oT, tf, atE, zE, dE, f1, rest⟩ := id fly
        have thrown : wpAny (model X.prog X.w) X.A (setFlight (.ref a) X.env.frame) (fun _ s4 => wpAny (model X.prog X.w) X.A (throw (.ref a) : Sem Flow) (SP X pins D) X.xe s4) X.xe { s1 with heap := g } := by
          rw [frm]
          exact HandSPX.setFlight_upZ fly fun g2 held up2 => wpAny_throw (tk _ _ ⟨a, B, s0, pins, σ1, H1, cls, d, rfl, J, ground, upAll.trans up2, .inr (.inr (by rw [stk]; exact held)), free, sameOs, bare, last⟩)
        refine wpAny_handleBy_nil ?_
        unfold PySem.passOn
        refine wpAny_bind (wpAny_field atE dE f1 ?_)
        rw [if_neg (by simp : ¬ ((Value.ref T == Value.none) = true))]
        first
          | exact wpAny_bind (wpAny_pure (wpAny_bind thrown))
          | exact wpAny_bind thrown
      | @cons x n kc ki kts st sts np hp hs2 ks2 nd at_ loc nm su more ih =>
        rintro ⟨b, isB, yes, no⟩
        refine wpAny_handleBy_cons (codeAny_handlers_test ?_) (by intro z; cases z)
        have lookT : PySem.W.Looks (model X.prog X.w) g (typeOf (.ref a)) cls := fun _ _ _ _ keep q => wpAny_typeOf_ref (keep _ _ atA) (by rw [isZ.1]; exact q)
        have lookM := PySem.W.exm_one (M := model X.prog X.w) JL.kIn lookT isB
        have named : ∀ {Q E : Value → Shared → Prop}, Q kc { s1 with heap := g } → wpAny (model X.prog X.w) (X.A.mark (some (.ref a))) (eval (.Name x np) X.env) Q E { s1 with heap := g } := fun {Q E} q => by
          obtain ⟨gl, nodbg, m1 | ⟨m1, m2, m3⟩⟩ := nm
          · exact ld_glob (X := X.suite a ((a, oe) :: (X.pn ++ pins))) JS gl m1 q nodbg
          · exact ld_blt (X := X.suite a ((a, oe) :: (X.pn ++ pins))) JS gl m1 m2 q m3 nodbg
        refine named (lookM.here ?_)
        cases b with
        | false =>
          show wpAny _ X.A (handleBy (.ref a) X.env hs2) _ _ _
          exact ih (no rfl)
        | true =>
          refine codeAny_handlers_suite_as (HandSPX.lands_againZ fly fun g2 fly2 up2 => ?_)
          have J2 : Inv X pins σ1 H1 { s1 with heap := g2 } := J.landed ground fly2.1 (upAll.trans up2) sameOs bare
          obtain ⟨oe2, fs2, at2, isZ2, dat2⟩ := fly2.there
          refine store_ok (X := X.suite a ((a, oe2) :: (X.pn ++ pins))) (v := .ref a) (J2.suite at2 dat2 free outL outF) nd at_ (.inl loc) rfl (fun s5 J5 => ?_) (.inr loc)
          have ends : ∀ {σ6 : St} {H6 : Hp} {s6 : Shared} {Q : Shared → Prop}, Inv (X.suite a ((a, oe2) :: (X.pn ++ pins))) [] σ6 H6 s6 → (∀ s7, Inv X pins (σ6.set ki none) H6 s7 → Q s7) →
              wpAny (model X.prog X.w) X.A (do bindName X.env n .none; unbindBehindTheSuite X.env n hp) (fun _ s7 => Q s7) X.xe s6 := fun J6 q => gone_ok (J6.unsuite good) nd at_ loc q
          refine wpAny_mono ((su a oe2 cls d (X.pn ++ pins) isZ2 ⟨_, dat2⟩).run [] s5 _ H1 _ J5 (yes rfl a free)) (fun f s6 left => ?_) (fun _ _ z => z.elim)
          cases f with
          | ret u => obtain ⟨v6, σ6, H6, J6, r6, q6⟩ := left; exact ends J6 fun s7 J7 => ⟨_, _, _, J7, r6, q6⟩
          | next => obtain ⟨σ6, H6, J6, q6⟩ := left; exact ends J6 fun s7 J7 => ⟨_, _, J7, q6⟩
          | brk => obtain ⟨σ6, H6, J6, q6⟩ := left; exact ends J6 fun s7 J7 => ⟨_, _, J7, q6⟩
          | cont => obtain ⟨σ6, H6, J6, q6⟩ := left; exact ends J6 fun s7 J7 => ⟨_, _, J7, q6⟩
    exact each cl wants
  · cases f with
    | ret u => obtain ⟨v, σ2, H2, J2, r2, q2⟩ := out; exact ⟨v, σ2, H2, J2.ofTry good, r2, q2⟩
    | next => obtain ⟨σ2, H2, J2, q2⟩ := out; exact wpAny_execs_nil ⟨σ2, H2, J2.ofTry good, q2⟩
    | brk => obtain ⟨σ2, H2, J2, q2⟩ := out; exact ⟨σ2, H2, J2.ofTry good, q2⟩
    | cont => obtain ⟨σ2, H2, J2, q2⟩ := out; exact ⟨σ2, H2, J2.ofTry good, q2⟩
end
theorem k_cl1 {K : PySem.W.Frag} {Wo : WX} {nx bk ct : L2.St → Hp → Prop} {rt : VK} {c : Value} {i : Nat} {ts : Addr → Value → Option Addr → TS} {r : List Clause} {cls : Value} {d : Option Addr} {σ : L2.St} {H : Hp} (e : PySem.W.exmOne K cls c = some true)
    (q : ∀ a, H a = none → ts a cls d ⟨fun σ H => nx (σ.set i none) H, rt, fun σ H => bk (σ.set i none) H, fun σ H => ct (σ.set i none) H⟩ (σ.set i (some (.ref a))) H) : wClauses K Wo ⟨nx, rt, bk, ct⟩ (⟨c, i, ts⟩ :: r) cls d σ H :=
  ⟨true, e, fun _ => q, fun z => nomatch z⟩
theorem k_cl2 {K : PySem.W.Frag} {Wo : WX} {D : Ends} {k : Clause} {r : List Clause} {cls : Value} {d : Option Addr} {σ : L2.St} {H : Hp} (e : PySem.W.exmOne K cls k.c = some false) (q : wClauses K Wo D r cls d σ H) : wClauses K Wo D (k :: r) cls d σ H :=
  ⟨false, e, fun z => (nomatch z), fun _ => q⟩
theorem w_isN {A : Prop} (q : A) : V.non = V.non ∧ A := ⟨rfl, q⟩
end L2.My

/-! W11: math.lcm of two, for over enumerate, comprehensions over tuples and zips with draws. -/
namespace L2.My
open PySem PySem.Spec PyProof.Rows
def rLcm : List V → Hp → VK → Prop := fun vs H Q => ∃ a b : Int, vs = [.int a, .int b] ∧ a.natAbs < 2 ^ 64 ∧ b.natAbs < 2 ^ 64 ∧ Q (.int ((a.natAbs.lcm b.natAbs : Nat) : Int)) H
theorem cr_lcm {X : Cx} : CallR X (.builtin "math.lcm") rLcm := by
  intro pins s σ H vs us Q I r h
  obtain ⟨a, b, rfl, ha, hb, q⟩ := h
  cases r with
  | cons ra r =>
    cases r with
    | cons rb r =>
      cases r
      obtain ⟨t, rfl⟩ := ra
      obtain ⟨u, rfl⟩ := rb
      exact PySem.W.mc_lcm ha hb fun _ => ⟨.int ((a.natAbs.lcm b.natAbs : Nat) : Int), H, I.tok _, ⟨_, rfl⟩, q⟩
theorem w_lcm {a b : Int} {H : Hp} {Q : VK} (ha : a.natAbs < 2 ^ 64) (hb : b.natAbs < 2 ^ 64) (q : Q (.int ((a.natAbs.lcm b.natAbs : Nat) : Int)) H) : rLcm [.int a, .int b] H Q := ⟨a, b, rfl, ha, hb, q⟩
section
variable {K : PySem.W.Frag} {σ : St} {H : Hp} {g : TG} {tb : TS} {D : Ends} {a b : Addr} {xs ys : List V} {ta : TA} {te : TE} {tt : TT} {ws : List Nat} {Q : VK}
def ForEn (K : PySem.W.Frag) (g : TG) (tb : TS) (D : Ends) (σ : St) (vs : List V) (H : Hp) : Prop := tFor (iEnum K fun _ H Q => Q vs H) g tb D σ H
theorem w_forEn (q : ta σ H fun vs H1 => ForEn K g tb D σ vs H1) : tFor (iEnum K ta) g tb D σ H := q
theorem k_forEn {nx bk ct : L2.St → Hp → Prop} {rt : VK} (Pv : Nat → St → Hp → Prop) (hx : SqL K H a xs) (h0 : Pv 0 σ H) (hl : ∀ i σ H, Pv i σ H → SqL K H a xs)
    (hs : ∀ i x σ H T H', xs[i]? = some x → Pv i σ H → H T = none → Same H H' → H' T = some (.tup [.int (i : Nat), x]) → g (.ref T) σ H' fun σ2 H2 => tb ⟨Pv (i + 1), rt, nx, Pv (i + 1)⟩ σ2 H2) (hd : ∀ σ H, Pv xs.length σ H → nx σ H) :
    ForEn K g tb ⟨nx, rt, bk, ct⟩ σ [.ref a] H := by
  refine ⟨a, xs, rfl, hx, fun i m σ H => Pv i σ H ∧ m + i = xs.length, ⟨xs.length, h0, rfl⟩, fun i m σ H ⟨q, em⟩ => ?_⟩
  have l1 := hl i σ H q
  rcases Nat.lt_or_ge i xs.length with h | h
  · right
    have ex : xs[i]? = some xs[i] := List.getElem?_eq_getElem h
    refine ⟨⟨xs, _, l1, ex⟩, Pv (i + 1), fun σ' H' q' => ⟨m - 1, by omega, q', by omega⟩, ?_⟩
    rintro x H' ⟨T, x', rfl, hT, rfl, h1⟩
    exact hs i x' σ H T _ (h1 xs l1) q hT (Same.new hT) upd_same
  · left
    obtain rfl : i = xs.length := by omega
    exact ⟨⟨xs, l1, Nat.le_refl _⟩, hd σ H q⟩
/-- a comprehension over a tuple, any -/
theorem k_lcT (Pv : Nat → Addr → Hp → Prop) (h : H a = some (.tup xs)) (h0 : ∀ D, H D = none → Pv 0 D (upd H D (.lst []))) (hl : ∀ i D H', Pv i D H' → H' a = some (.tup xs))
    (hs : ∀ i x D H, xs[i]? = some x → Pv i D H → g x (wipe σ ws) H fun σ2 H2 => wipe σ2 ws = wipe σ ws ∧ tt σ2 H2 fun b H3 =>
      if b = true then te σ2 H3 fun y H4 => ∃ acc, H4 D = some (.lst acc) ∧ acc.length < sizeLine ∧ Pv (i + 1) D (upd H4 D (.lst (acc ++ [y]))) else Pv (i + 1) D H3) (hd : ∀ D H, Pv xs.length D H → Q (.ref D) H) : CompT K g tt te ws σ (.ref a) H Q :=
  ⟨a, rfl, ⟨_, SqT.of h⟩, fun D hD => lc_tup (xs := xs) (fun i H => Pv i D H) (h0 D hD) (fun i H _ q => SqT.of (hl i D H q)) (fun i x H hx q => hs i x D H hx q) (fun H q => hd D H q)⟩
/-- .. over a zip of two tuples -/
def CompZT (K : PySem.W.Frag) (g : TG) (tt : TT) (te : TE) (ws : List Nat) (σ : St) (vs : List V) (H : Hp) (Q : VK) : Prop := tLc (RZ.iZipA K fun _ H Q => Q vs H) g tt te ws σ H Q
theorem w_lcZT (q : ta σ H fun vs H1 => CompZT K g tt te ws σ vs H1 Q) : tLc (RZ.iZipA K ta) g tt te ws σ H Q := q
theorem k_lcZT (Pv : Nat → Addr → Hp → Prop) (ha : H a = some (.tup xs)) (hb : H b = some (.tup ys)) (e : xs.length = ys.length) (h0 : ∀ D, H D = none → Pv 0 D (upd H D (.lst []))) (hl : ∀ i D H', Pv i D H' → H' a = some (.tup xs) ∧ H' b = some (.tup ys))
    (hs : ∀ i x y D H T H', xs[i]? = some x → ys[i]? = some y → Pv i D H → H T = none → Same H H' → H' T = some (.tup [x, y]) → g (.ref T) (wipe σ ws) H' fun σ2 H2 => wipe σ2 ws = wipe σ ws ∧ tt σ2 H2 fun b H3 =>
      if b = true then te σ2 H3 fun z H4 => ∃ acc, H4 D = some (.lst acc) ∧ acc.length < sizeLine ∧ Pv (i + 1) D (upd H4 D (.lst (acc ++ [z]))) else Pv (i + 1) D H3) (hd : ∀ D H, Pv xs.length D H → Q (.ref D) H) : CompZT K g tt te ws σ [.ref a, .ref b] H Q := by
  refine ⟨a, b, xs, ys, rfl, .inr ⟨SqT.of ha, SqT.of hb, fun D hD => ⟨fun i m H => Pv i D H ∧ m + i = xs.length, ⟨xs.length, h0 D hD, rfl⟩, fun i m H ⟨q, em⟩ => ?_⟩⟩⟩
  obtain ⟨l1, l2⟩ := hl i D H q
  rcases Nat.lt_or_ge i xs.length with h | h
  · right
    have ex : xs[i]? = some xs[i] := List.getElem?_eq_getElem h
    have ey : ys[i]? = some (ys[i]'(by omega)) := List.getElem?_eq_getElem (by omega)
    refine ⟨⟨xs, ys, _, _, SqT.of l1, SqT.of l2, ex, ey⟩, Pv (i + 1) D, fun H' q' => ⟨m - 1, by omega, q', by omega⟩, ?_⟩
    rintro x H' ⟨T, x', y', rfl, hT, rfl, h1, h2⟩
    exact hs i x' y' D H T _ (h1 xs (SqT.of l1)) (h2 ys (SqT.of l2)) q hT (Same.new hT) upd_same
  · left
    obtain rfl : i = xs.length := by omega
    exact ⟨⟨xs, ys, SqT.of l1, SqT.of l2, .inl (Nat.le_refl _)⟩, hd D H q⟩
end
theorem w_notB {b c : Bool} {H : Hp} {Q : VK} (q : Q (.bl (!decide (b = c))) H) : rNotB (.bl b) (.bl c) H Q := ⟨b, c, rfl, rfl, q⟩
end L2.My

/-! W12: == of two tuples whose items an own == compares, with either answer. -/
namespace L2.My
open PySem PySem.SeqAt
open AutoSeq1 (wpAny_loadPart')
open MeetsSeq MeetsSeq2 MeetsSeq3 SeqRoads2
section
variable {P : Program} {w : World} {A : Around} {R : Result → Shared → Prop}
theorem tup_eqB (p q : Addr) (as bs : Array Value) (n m : Nat) (da db : Option Addr) (sa sb : Array (Option Value)) (sz : as.size = bs.size) (e : Nat → Bool) (v : Bool) (ev : (List.range as.size).all e = v) (J : Nat → Shared → Prop)
    (go : ∀ i (h1 : i < as.size) (h2 : i < bs.size) t, J i t → wpAny (model P w) A.in1 (eqBool as[i] bs[i]) (fun r t' => r = e i ∧ J (i + 1) t') (fun er t' => R (.error er) t') t)
    (out : ∀ i t, J i t → R (.ok (.ret (.bool v))) t) {s : Shared} (lp : s.heap.get? p = some { cls := .type "tuple", dict := da, data := .seq as n, slots := sa }) (lq : s.heap.get? q = some { cls := .type "tuple", dict := db, data := .seq bs m, slots := sb }) (start : J 0 s) :
    wpAny (model P w) A.in1 (Builtin.«tuple.__eq__» ⟨[.ref p, .ref q], []⟩) (GQ.FinOf P w A R) (fun er t' => R (.error er) t') s := by
  have sub2 := AutoSeq1.sub_tuple_tuple
  have zl : (as.toList.zip bs.toList).length = as.size := by simp [sz]
  have keep := start
  obtain ⟨hp, gg, dd, tk, os⟩ := s
  wp_walk using wpAny_loadPart' lp, wpAny_loadPart' lq, wpAny_forIn_list _ (fun rest st t => st.1 = none ∧ ∃ i, rest = (as.toList.zip bs.toList).drop i ∧ i ≤ as.size ∧ ((List.range as.size).drop i).all e = v ∧ J i t) _
  case turn =>
    rintro ⟨y, x⟩ rest st t ⟨no, i, ez, le, al, hJ⟩
    have lt : i < (as.toList.zip bs.toList).length := by
      refine Nat.lt_of_not_le fun z => ?_
      rw [List.drop_of_length_le z] at ez
      cases ez
    have h1 : i < as.size := zl ▸ lt
    have h2 : i < bs.size := sz ▸ h1
    rw [List.drop_eq_getElem_cons lt] at ez
    injection ez with e1 e2
    obtain rfl : y = as[i] := by simpa using congrArg Prod.fst e1
    obtain rfl : x = bs[i] := by simpa using congrArg Prod.snd e1
    rw [show (List.range as.size).drop i = i :: (List.range as.size).drop (i + 1) by simp [List.drop_eq_getElem_cons, h1], List.all_cons] at al
    refine wpAny_bind (wpAny_mono (go i h1 h2 t hJ) (fun r t2 z => ?_) fun _ _ z => z)
    obtain ⟨rfl, J2⟩ := z
    cases eb : e i with
    | true =>
      rw [eb, Bool.true_and] at al
      wp_walk
      exact ⟨rfl, i + 1, e2, h1, al, J2⟩
    | false =>
      have o := out _ _ J2
      rw [eb, Bool.false_and] at al
      subst al
      wp_walk
      exact o
  case fin =>
    rintro ⟨z1, z2⟩ t ⟨no, i, ez, le, al, hJ⟩
    simp only at no
    subst no
    have ge : as.size ≤ i := Nat.le_of_not_lt fun z => by
      rw [List.drop_eq_getElem_cons (by rw [zl]; exact z)] at ez
      cases ez
    rw [List.drop_of_length_le (by simpa using ge)] at al
    have o := out _ _ hJ
    rw [← al] at o
    wp_walk
    simpa [Builtin.Tuple.tupleCompareSizes, sz] using o
  case h => exact ⟨rfl, 0, rfl, Nat.zero_le _, by simpa using ev, keep⟩
end
open PySem.Spec PyProof.Rows
/-- what == says of two things, told -/
abbrev EqvB := V → V → Hp → Bool → Prop
def RcB (X : Cx) (n : Nat) (D : EqvB) : Prop :=
  ∀ (A : Around) (pins : List (Addr × Obj)) (s : Shared) (σ : L2.St) (H : Hp) (x y : V) (u v : Value) (b : Bool), Sub X n A → Inv X pins σ H s → RelV x u → RelV y v → D x y H b →
    wpAny (model X.prog X.w) A (richCompare .Eq u v) (fun r t => r = .bool b ∧ ∃ H', Inv X pins σ H' t ∧ Ext H H') X.xe s
def EqB (X : Cx) (n : Nat) (D : EqvB) : Prop :=
  ∀ (A : Around) (pins : List (Addr × Obj)) (s : Shared) (σ : L2.St) (H : Hp) (x y : V) (u v : Value) (b : Bool), Sub X n A → Inv X pins σ H s → RelV x u → RelV y v → D x y H b →
    wpAny (model X.prog X.w) A (eqBool u v) (fun r t => r = b ∧ ∃ H', Inv X pins σ H' t ∧ Ext H H') X.xe s
/-- instances of the class C: what its own == promises -/
def DInB (C : Addr) (R : Addr → Addr → Hp → Bool → Prop) : EqvB := fun x y H b => ∃ p q dx dy fs gs, x = .ref p ∧ y = .ref q ∧ H p = some (.ins C dx fs) ∧ H q = some (.ins C dy gs) ∧ R p q H b
section
variable {X : Cx} {n : Nat} {D : EqvB}
theorem rcB_ins {CX : CXT} {C f : Addr} {fd : FuncData} {ps : List Str} {R : Addr → Addr → Hp → Bool → Prop} {sp : Sp} {E : XK} (F : FnOk X.prog X.w X.K X.mg X.base CX n f fd ps sp)
    (keeps : ∀ p q H b, R p q H b → sp [.ref p, .ref q] H (fun z H' => z = .bl b ∧ Ext H H') E)
    (at_ : PySem.W.findIn X.K (.ref C) "__eq__" = some (some (.ref f))) (fn : PySem.W.isFn X.K (.ref f) = true) (bi : Binds X.K fd ps []) (px : Passes CX X E) : RcB X n (DInB C R) := by
  intro A pins s σ H x y u v b sub I rx ry ⟨p, q, dx, dy, fs, gs, ex, ey, hp, hq, hR⟩
  subst ex ey
  cases rx
  cases ry
  obtain ⟨m1, J, _⟩ := ins_get I.hok hp
  obtain ⟨m2, J', _⟩ := ins_get I.hok hq
  obtain ⟨od, J, _⟩ := J.look
  obtain ⟨od', J', _⟩ := J'.look
  obtain ⟨mm, hF⟩ := I.fr
  have want := keeps p q H b hR
  have lens := F.len _ _ _ _ want
  have env : Env0 X.prog X.w X.K X.mg X.base A X.stack s H := ⟨by rw [sub.fr]; exact I.env0.frames, I.env0.mod, I.env0.bs, I.env0.bsz, I.env0.funs, I.env0.frf, I.env0.hok, I.env0.bare⟩
  refine PySem.W.cmp_K (op := .Eq) (tb := .ref C) sub.room.units0 hF I.ok.mod.kin J J'.type (by simp [PySem.W.notFirst]) at_ fn ?_
  refine wpAny_call (codeAny_mono (F.run A X.stack s H ⟨[.ref p, .ref q], []⟩ [.ref p, .ref q] [.ref p, .ref q] _ E sub.room env (by simpa using bi s [.ref p, .ref q] I.kIn (by simpa using lens)) (.cons rfl (.cons rfl .nil)) want) fun r t hr => ?_)
  cases r with
  | error er => exact px pins σ H s er t I hr
  | ok fl =>
    cases fl with
    | ret z =>
      obtain ⟨z', H', I', rz, ez, ext⟩ := I.after hr
      subst ez
      cases rz
      exact ⟨rfl, H', I', ext⟩
    | next => exact hr.elim
    | brk => exact hr.elim
    | cont => exact hr.elim
theorem RcB.eqB (h : RcB X n D) (refs : ∀ x y H b, D x y H b → ∃ p q, x = .ref p ∧ y = .ref q) (self : ∀ p H b, D (.ref p) (.ref p) H b → b = true) : EqB X n D := by
  intro A pins s σ H x y u v b sub I rx ry d
  obtain ⟨p, q, ex, ey⟩ := refs _ _ _ _ d
  subst ex ey
  cases rx
  cases ry
  by_cases pq : p = q
  · subst pq
    rw [self _ _ _ d]
    exact SeqAt.EqAt.same (A := A) (s := s) (.ref p) X.prog X.w X.xe _ ⟨rfl, H, I, Ext.rfl'⟩
  · refine GQ.eqBool_refG pq (wpAny_mono (h A pins s σ H (.ref p) (.ref q) _ _ b sub I rfl rfl d) (fun r t z => ?_) fun _ _ z => z)
    exact ⟨b, z.1, rfl, z.2⟩
/-- tuples of two such items each -/
def DTwo (K : PySem.W.Frag) (D : EqvB) : EqvB := fun x y H b => ∃ p q x0 x1 y0 y1 b0 b1, x = .ref p ∧ y = .ref q ∧ SqT K H p [x0, x1] ∧ SqT K H q [y0, y1] ∧ D x0 y0 H b0 ∧ D x1 y1 H b1 ∧ b = (b0 && b1)
theorem rcB_two (mon : ∀ x y H H' b, Ext H H' → D x y H b → D x y H' b) (h : EqB X n D) : RcB X (n + 1) (DTwo X.K D) := by
  intro A pins s σ H x y u v b sub I rx ry ⟨p, q, x0, x1, y0, y1, b0, b1, ex, ey, hp, hq, d0, d1, eb⟩
  subst ex ey
  cases rx
  cases ry
  obtain ⟨its, r1, pl, -⟩ := I.tuple hp
  obtain ⟨its', r2, pl', -⟩ := I.tuple hq
  cases r1 with
  | cons ra r1 =>
    cases r1 with
    | cons rb r1 =>
      cases r1
      cases r2 with
      | cons rc r2 =>
        cases r2 with
        | cons rd r2 =>
          cases r2
          obtain ⟨⟨c1, e1, f1, g1⟩, ho, hc, k1, hd⟩ := id pl
          obtain ⟨⟨c2, e2, f2, g2⟩, ho2, hc2, k2, hd2⟩ := id pl'
          simp only at hc hd hc2 hd2
          subst hc hd hc2 hd2
          refine wpAny_richCompare_same_room (op := .Eq) ⟨_, ho, rfl⟩ ⟨_, ho2, rfl⟩ F.slot_tuple_eq (GQ.call_here F.slot_tuple_eq ⟨_, ho, rfl⟩ F.entry_tuple_eq (F.args_tuple_eq_2 _ _) ?_) sub.room.units0
          refine tup_eqB (R := wants (fun z t => z ≠ .notImplemented ∧ (z = .bool b ∧ ∃ H', Inv X pins σ H' t ∧ Ext H H')) X.xe) p q _ _ _ _ _ _ _ _ (by simp) (fun i => if i = 0 then b0 else b1) b ?_ (fun _ t => ∃ H', Inv X pins σ H' t ∧ Ext H H') ?_ ?_ ho ho2 ⟨H, I, Ext.rfl'⟩
          · rw [eb]
            show ((List.range 2).all _) = _
            simp [List.range_succ]
          · rintro i h1 h2 t ⟨H1, I1, x1'⟩
            have hi : i = 0 ∨ i = 1 := by have : i < 2 := h1; omega
            rcases hi with rfl | rfl
            · refine wpAny_mono (h A.in1 pins t σ H1 x0 y0 _ _ b0 sub.in1 I1 ra rc (mon _ _ _ _ _ x1' d0)) (fun r t' z => ?_) fun _ _ z => z
              obtain ⟨z1, H2, I2, x2⟩ := z
              exact ⟨z1, H2, I2, x1'.trans x2⟩
            · refine wpAny_mono (h A.in1 pins t σ H1 x1 y1 _ _ b1 sub.in1 I1 rb rd (mon _ _ _ _ _ x1' d1)) (fun r t' z => ?_) fun _ _ z => z
              obtain ⟨z1, H2, I2, x2⟩ := z
              exact ⟨z1, H2, I2, x1'.trans x2⟩
          · exact fun i t z => ⟨fun y => (nomatch y), rfl, z⟩
/-- x == y -/
def rEqB (D : EqvB) : R2 := fun x y H Q => ∃ b, D x y H b ∧ ∀ H', Ext H H' → Q (.bl b) H'
theorem op_eqB (h : RcB X n D) (hr : Room n X.A) : OpR X (compareOp .Eq) (rEqB D) := by
  intro pins s σ H x y v u Q I rx ry ⟨b, d, q⟩
  show wpAny (model X.prog X.w) X.A (richCompare .Eq v u) (EP X pins σ Q) X.xe s
  refine wpAny_mono (h X.A pins s σ H x y v u b ⟨hr, rfl⟩ I rx ry d) (fun r t z => ?_) fun _ _ z => z
  obtain ⟨z1, H', I', e⟩ := z
  subst z1
  exact ⟨.bl b, H', I', rfl, q H' e⟩
end
end L2.My

/-! W13: == of tuples of two instances by their own ==, of tuples with the same things in them. -/
namespace L2.My
open PySem PySem.Spec PyProof.Rows
section
variable {X : Cx} {n j k : Nat}
theorem RcB.mono' {D : EqvB} (h : RcB X n D) (l : n ≤ j) : RcB X j D := fun A pins s σ H x y u v b sb => h A pins s σ H x y u v b (sb.mono l)
theorem op_eqTwo {C : Addr} {ps : List Str} {sp : Sp} {E : XK} {R : Addr → Addr → Hp → Bool → Prop} (h : HasM X.prog X.w X.K X.mg X.base C "__eq__" k ps sp) (hr : Room j X.A) (hx : Passes (L2.CX X.prog X.w) X E)
    (keeps : ∀ p q H b, R p q H b → sp [.ref p, .ref q] H (fun z H' => z = .bl b ∧ Ext H H') E) (mon : ∀ p q H H' b, Ext H H' → R p q H b → R p q H' b) (self : ∀ p H b, R p p H b → b = true) (hj : k + 1 ≤ j := by decide) :
    OpR X (compareOp .Eq) (rEqB (DTwo X.K (DInB C R))) := by
  obtain ⟨f, fd, Fo, hm, hb⟩ := h
  have r1 : RcB X k (DInB C R) := rcB_ins Fo keeps hm.at_ hm.fn hb hx
  have r2 : EqB X k (DInB C R) := r1.eqB (fun x y H b d => by obtain ⟨p, q, _, _, _, _, e1, e2, _⟩ := d; exact ⟨p, q, e1, e2⟩) (fun p H b d => by
    obtain ⟨p', q', _, _, _, _, e1, e2, _, _, r⟩ := d
    cases e1
    cases e2
    exact self _ _ _ r)
  refine op_eqB (rcB_two (fun x y H H' b e d => ?_) r2) (hr.mono hj)
  obtain ⟨p, q, dx, dy, fs, gs, e1, e2, h1, h2, r⟩ := d
  exact ⟨p, q, dx, dy, fs, gs, e1, e2, e _ _ h1, e _ _ h2, mon _ _ _ _ _ e r⟩
/-- flat and equal, or the same object -/
def DSame : Eqv := fun x y H => DFlat x y H ∨ ∃ a, x = .ref a ∧ y = .ref a
theorem mon_same : Mon DSame := fun _ _ _ _ _ d => d
theorem eqG_same : EqG X 0 DSame := fun A pins s σ H x y u v sb I rx ry d => by
  rcases d with d | ⟨a, e1, e2⟩
  · exact eqG_flat A pins s σ H x y u v sb I rx ry d
  · subst e1 e2
    cases rx
    cases ry
    exact SeqAt.EqAt.same (A := A) (s := s) (.ref a) X.prog X.w X.xe _ ⟨rfl, H, I, Ext.rfl'⟩
theorem op_eqSame (hr : Room 1 X.A) : OpR X (compareOp .Eq) (rEqG (DTup X.K DSame)) := op_eqG (rcG_tup mon_same eqG_same) hr
/-- (text, thing) == (text, thing) -/
theorem w_eqSame2 {K : PySem.W.Frag} {p q : Addr} {s : Str} {v : V} {H : Hp} {Q : VK} (h1 : H p = some (.tup [.str s, v])) (h2 : H q = some (.tup [.str s, v])) (hv : (∃ a, v = .ref a) ∨ v = .non ∨ ∃ k, v = .int k) (q' : ∀ H', Ext H H' → Q (.bl true) H') : rEqG (DTup K DSame) (.ref p) (.ref q) H Q := by
  refine ⟨⟨p, q, _, _, rfl, rfl, SqT.of h1, SqT.of h2, .cons (.inl ⟨rfl, rfl, by simp [eqV]⟩) (.cons ?_ .nil)⟩, q'⟩
  rcases hv with ⟨a, rfl⟩ | rfl | ⟨k, rfl⟩
  · exact .inr ⟨a, rfl, rfl⟩
  · exact .inl ⟨rfl, rfl, rfl⟩
  · exact .inl ⟨rfl, rfl, by simp [eqV]⟩
end
end L2.My

/-! W14: the signs of t + r * the square root of 2, by whole numbers p, q with p * p = 2 * q * q + 1 far enough out: t * q + r * p has the same sign. -/
namespace L2.My
/-- the sign of t + r * the square root of 2 -/
def sg2 (t r : Int) : Int :=
  if t = 0 ∧ r = 0 then 0 else if 0 ≤ t ∧ 0 ≤ r then 1 else if t ≤ 0 ∧ r ≤ 0 then -1 else if t * t > 2 * r * r then (if 0 < t then 1 else -1) else if 0 < r then 1 else -1
structure Pell (p q : Int) : Prop where
  e : p * p = 2 * (q * q) + 1
  p : 0 < p
  q : 0 < q
theorem sq_le {x y : Int} (hx : 0 ≤ x) (h : x ≤ y) : x * x ≤ y * y := Int.mul_le_mul h h hx (by omega)
theorem sq_lt_of {x y : Int} (hy : 0 ≤ y) (h : x * x < y * y) : x < y := by
  refine Int.not_le.mp fun z => ?_
  have := sq_le hy z
  omega
theorem Pell.next {p q : Int} (h : Pell p q) : Pell (3 * p + 4 * q) (2 * p + 3 * q) := by
  obtain ⟨e, hp, hq⟩ := h
  exact ⟨by grind, by omega, by omega⟩
theorem pell_far (n : Nat) : ∃ p q, Pell p q ∧ (n : Int) < q := by
  induction n with
  | zero => exact ⟨3, 2, ⟨by decide, by decide, by decide⟩, by decide⟩
  | succ n ih =>
    obtain ⟨p, q, h, l⟩ := ih
    have := h.p
    exact ⟨_, _, h.next, by omega⟩
theorem Pell.lo {p q : Int} (h : Pell p q) : 7 * q < 5 * p := by
  have := h.e
  have := h.p
  have := h.q
  refine sq_lt_of (by omega) ?_
  have h2 : 0 < q * q := Int.mul_pos h.q h.q
  have e1 : 7 * q * (7 * q) = 49 * (q * q) := by grind
  have e2 : 5 * p * (5 * p) = 25 * (p * p) := by grind
  omega
theorem Pell.hi {p q : Int} (h : Pell p q) : 2 * p ≤ 3 * q := by
  have := h.e
  have := h.p
  have := h.q
  refine Int.not_lt.mp fun z => ?_
  have h2 := sq_le (x := 3 * q + 1) (y := 2 * p) (by omega) (by omega)
  have e1 : (3 * q + 1) * (3 * q + 1) = 9 * (q * q) + 6 * q + 1 := by grind
  have e2 : 2 * p * (2 * p) = 4 * (p * p) := by grind
  have h3 : 0 < q * q := Int.mul_pos h.q h.q
  have h4 : 1 * q ≤ q * q := Int.mul_le_mul_of_nonneg_right (by omega) (by omega)
  omega
/-- the signs are told by the whole number -/
theorem sg2_pell {t r p q : Int} (h : Pell p q) (hr : (r.natAbs : Int) < q) : (0 < t * q + r * p → sg2 t r = 1) ∧ (t * q + r * p < 0 → sg2 t r = -1) ∧ (t * q + r * p = 0 → t = 0 ∧ r = 0) := by
  obtain ⟨e, hp, hq⟩ := h
  have r2 : r * r < q * q := by
    have : (r.natAbs : Int) * r.natAbs = r * r := by
      rw [← Int.natCast_mul, Int.natAbs_mul_self]
    have l := sq_le (x := (r.natAbs : Int)) (y := q - 1) (by omega) (by omega)
    have e1 : (q - 1) * (q - 1) = q * q - 2 * q + 1 := by grind
    omega
  have r0 : 0 ≤ r * r := by
    rcases Int.le_total 0 r with h | h
    · exact Int.mul_nonneg h h
    · exact Int.mul_nonneg_of_nonpos_of_nonpos h h
  have key : (t * q) * (t * q) - (r * p) * (r * p) = (t * t - 2 * (r * r)) * (q * q) - r * r := by
    have e2 : (r * p) * (r * p) = r * r * (2 * (q * q) + 1) := by rw [← e]; grind
    rw [e2]
    grind
  have qq : 0 < q * q := Int.mul_pos hq hq
  unfold sg2
  by_cases c0 : t = 0 ∧ r = 0
  · obtain ⟨rfl, rfl⟩ := c0
    simp
  rw [if_neg c0]
  by_cases c1 : 0 ≤ t ∧ 0 ≤ r
  · rw [if_pos c1]
    have a1 : 0 ≤ t * q := Int.mul_nonneg c1.1 (by omega)
    have a2 : 0 ≤ r * p := Int.mul_nonneg c1.2 (by omega)
    have a3 : 0 < t * q + r * p := by
      rcases (show 0 < t ∨ 0 < r by omega) with z | z
      · have := Int.mul_pos z hq
        omega
      · have := Int.mul_pos z hp
        omega
    exact ⟨fun _ => rfl, fun z => by omega, fun z => by omega⟩
  rw [if_neg c1]
  by_cases c2 : t ≤ 0 ∧ r ≤ 0
  · rw [if_pos c2]
    have a1 : 0 ≤ -t * q := Int.mul_nonneg (by omega) (by omega)
    have a2 : 0 ≤ -r * p := Int.mul_nonneg (by omega) (by omega)
    have a3 : 0 < -t * q + -r * p := by
      rcases (show 0 < -t ∨ 0 < -r by omega) with z | z
      · have := Int.mul_pos z hq
        omega
      · have := Int.mul_pos z hp
        omega
    rw [Int.neg_mul] at a1 a3
    rw [Int.neg_mul] at a2 a3
    exact ⟨fun z => by omega, fun _ => rfl, fun z => by omega⟩
  rw [if_neg c2]
  have a5 : 2 * r * r = 2 * (r * r) := Int.mul_assoc _ _ _
  by_cases c3 : t * t > 2 * r * r
  · rw [if_pos c3]
    have b1 : q * q ≤ (t * t - 2 * (r * r)) * (q * q) := by
      have := Int.mul_le_mul_of_nonneg_right (a := 1) (b := t * t - 2 * (r * r)) (c := q * q) (by omega) (by omega)
      omega
    by_cases c4 : 0 < t
    · rw [if_pos c4]
      have p1 : 0 < t * q := Int.mul_pos c4 hq
      have b2 : -(r * p) < t * q := sq_lt_of (by omega) (by rw [Int.neg_mul_neg]; omega)
      exact ⟨fun _ => rfl, fun z => by omega, fun z => by omega⟩
    · rw [if_neg c4]
      have p1 : 0 < -t * q := Int.mul_pos (by
        refine Int.not_le.mp fun z => ?_
        have : t = 0 := by omega
        subst this
        omega) hq
      have b2 : r * p < -t * q := sq_lt_of (by omega) (by rw [Int.neg_mul, Int.neg_mul_neg]; omega)
      rw [Int.neg_mul] at b2
      exact ⟨fun z => by omega, fun _ => rfl, fun z => by omega⟩
  · rw [if_neg c3]
    have d1 : t * t < 2 * (r * r) ∨ t * t = 2 * (r * r) := by omega
    have rn : r ≠ 0 := by
      intro z
      subst z
      simp only [Int.mul_zero] at d1
      rcases Int.lt_or_gt_of_ne (show t ≠ 0 from fun y => c0 ⟨y, rfl⟩) with z | z
      · have := Int.mul_pos_of_neg_of_neg z z
        omega
      · have := Int.mul_pos z z
        omega
    have b1 : (t * t - 2 * (r * r)) * (q * q) ≤ 0 := Int.mul_nonpos_of_nonpos_of_nonneg (by omega) (by omega)
    have rr : 0 < r * r := by
      rcases Int.lt_or_gt_of_ne rn with z | z
      · exact Int.mul_pos_of_neg_of_neg z z
      · exact Int.mul_pos z z
    by_cases c4 : 0 < r
    · rw [if_pos c4]
      have p1 : 0 < r * p := Int.mul_pos c4 hp
      have b2 : -(t * q) < r * p := sq_lt_of (by omega) (by rw [Int.neg_mul_neg]; omega)
      exact ⟨fun _ => rfl, fun z => by omega, fun z => by omega⟩
    · rw [if_neg c4]
      have p1 : 0 < -r * p := Int.mul_pos (by omega) hp
      have b2 : t * q < -r * p := sq_lt_of (by omega) (by rw [Int.neg_mul, Int.neg_mul_neg]; omega)
      rw [Int.neg_mul] at b2
      exact ⟨fun z => by omega, fun _ => rfl, fun z => by omega⟩
theorem sg2_pos {t r p q : Int} (h : Pell p q) (hr : (r.natAbs : Int) < q) : 0 < sg2 t r ↔ 0 < t * q + r * p := by
  obtain ⟨a, b, c⟩ := sg2_pell (t := t) h hr
  constructor
  · intro z
    rcases (show 0 < t * q + r * p ∨ t * q + r * p < 0 ∨ t * q + r * p = 0 by omega) with y | y | y
    · exact y
    · rw [b y] at z
      omega
    · obtain ⟨rfl, rfl⟩ := c y
      simp [sg2] at z
  · intro z
    rw [a z]
    decide
theorem nat_sqr2 : ∀ m n : Nat, m * m = 2 * (n * n) → n = 0 := by
  intro m
  induction m using Nat.strongRecOn with
  | ind m ih =>
    intro n h
    rcases Nat.eq_zero_or_pos n with h0 | h0
    · exact h0
    have hn : n < m := by
      rcases Nat.lt_or_ge n m with q | q
      · exact q
      · have := Nat.mul_le_mul q q
        have : 0 < n * n := Nat.mul_pos h0 h0
        omega
    have he : m % 2 = 0 := by
      rcases Nat.mod_two_eq_zero_or_one m with q | q
      · exact q
      · have : m * m % 2 = 1 := by rw [Nat.mul_mod, q]
        omega
    obtain ⟨k, rfl⟩ : ∃ k, m = 2 * k := ⟨m / 2, by omega⟩
    have h2 : n * n = 2 * (k * k) := by
      have : 2 * k * (2 * k) = 4 * (k * k) := by grind
      omega
    have hk := ih n hn k h2
    subst hk
    simp at h2
    rcases Nat.mul_eq_zero.mp h2 with q | q <;> exact q
/-- the square root of 2 is no fraction -/
theorem sqr2 {t r : Int} (h : t * t - 2 * r * r = 0) : t = 0 ∧ r = 0 := by
  have e : t.natAbs * t.natAbs = 2 * (r.natAbs * r.natAbs) := by
    have h1 : ((t.natAbs * t.natAbs : Nat) : Int) = t * t := Int.natAbs_mul_self
    have h2 : ((r.natAbs * r.natAbs : Nat) : Int) = r * r := Int.natAbs_mul_self
    have h3 : 2 * r * r = 2 * (r * r) := Int.mul_assoc ..
    omega
  have hr := nat_sqr2 _ _ e
  rw [hr] at e
  simp at e
  have h0 : t.natAbs = 0 := by rcases Nat.mul_eq_zero.mp e with q | q <;> exact q
  exact ⟨by omega, by omega⟩
/-! ### the window of a floor, told over the half of a common bottom -/
def wit (x y w o : Int) : Bool := decide (0 < sg2 (w - x) (o - y)) && decide (0 < sg2 (w + x) (o + y))
def winB (h a b c e : Int) : Bool := wit a b h h && (wit c e h h && (wit (a + c) (b + e) (2 * h) h && wit (a - c) (b - e) (2 * h) h))
/-- the window, linear -/
structure WinL (X Y U V : Int) : Prop where
  x1 : X < U + V
  x2 : -(U + V) < X
  y1 : Y < U + V
  y2 : -(U + V) < Y
  s1 : X + Y < 2 * U + V
  s2 : -(2 * U + V) < X + Y
  d1 : X - Y < 2 * U + V
  d2 : -(2 * U + V) < X - Y
theorem wit_pell {x y w o p q : Int} (P : Pell p q) (hr : (y.natAbs : Int) + o.natAbs < q) : wit x y w o = true ↔ x * q + y * p < w * q + o * p ∧ -(w * q + o * p) < x * q + y * p := by
  unfold wit
  rw [Bool.and_eq_true, decide_eq_true_eq, decide_eq_true_eq, sg2_pos P (by omega), sg2_pos P (by omega)]
  simp only [Int.sub_mul, Int.add_mul]
  constructor
  · intro h
    omega
  · intro h
    omega
theorem win_pell {h a b c e p q : Int} (P : Pell p q) (hr : (b.natAbs : Int) + e.natAbs + h.natAbs < q) : winB h a b c e = true ↔ WinL (a * q + b * p) (c * q + e * p) (h * q) (h * p) := by
  unfold winB
  rw [Bool.and_eq_true, Bool.and_eq_true, Bool.and_eq_true, wit_pell P (by omega), wit_pell P (by omega), wit_pell P (by omega), wit_pell P (by omega)]
  simp only [Int.sub_mul, Int.add_mul, Int.mul_assoc]
  constructor
  · rintro ⟨⟨h1, h2⟩, ⟨h3, h4⟩, ⟨h5, h6⟩, h7, h8⟩
    exact ⟨by omega, by omega, by omega, by omega, by omega, by omega, by omega, by omega⟩
  · rintro ⟨h1, h2, h3, h4, h5, h6, h7, h8⟩
    omega
/-- from each point of the window one of four steps stays in it -/
theorem win_side {h a b c e : Int} (hh : 0 < h) (w : winB h a b c e = true) : winB h (a + 2 * h) b c e = true ∨ winB h (a - 2 * h) b c e = true ∨ winB h a b (c + 2 * h) e = true ∨ winB h a b (c - 2 * h) e = true := by
  obtain ⟨p, q, P, far⟩ := pell_far (b.natAbs + e.natAbs + h.natAbs)
  rw [win_pell P (by omega)] at w
  rw [win_pell P (by omega), win_pell P (by omega), win_pell P (by omega), win_pell P (by omega)]
  have lo := P.lo
  have hi := P.hi
  have u1 : 0 < h * q := Int.mul_pos hh P.q
  have u2 : 0 < h * (5 * p - 7 * q) := Int.mul_pos hh (by omega)
  rw [Int.mul_sub, ← Int.mul_assoc, ← Int.mul_assoc, Int.mul_comm h 5, Int.mul_comm h 7, Int.mul_assoc, Int.mul_assoc] at u2
  simp only [Int.sub_mul, Int.add_mul, Int.mul_assoc]
  obtain ⟨h1, h2, h3, h4, h5, h6, h7, h8⟩ := w
  by_cases k1 : c * q + e * p ≤ a * q + b * p
  · by_cases k2 : -(c * q + e * p) ≤ a * q + b * p
    · exact .inr (.inl ⟨by omega, by omega, by omega, by omega, by omega, by omega, by omega, by omega⟩)
    · exact .inr (.inr (.inl ⟨by omega, by omega, by omega, by omega, by omega, by omega, by omega, by omega⟩))
  · by_cases k2 : -(c * q + e * p) ≤ a * q + b * p
    · exact .inr (.inr (.inr ⟨by omega, by omega, by omega, by omega, by omega, by omega, by omega, by omega⟩))
    · exact .inl ⟨by omega, by omega, by omega, by omega, by omega, by omega, by omega, by omega⟩
/-! ### three directions one behind the other: one of them is a side -/
section
variable {X Y U V : Int}
theorem WinL.out (n : ¬ WinL X Y U V) : U + V ≤ X ∨ X ≤ -(U + V) ∨ U + V ≤ Y ∨ Y ≤ -(U + V) ∨ 2 * U + V ≤ X + Y ∨ X + Y ≤ -(2 * U + V) ∨ 2 * U + V ≤ X - Y ∨ X - Y ≤ -(2 * U + V) := by
  refine Classical.byContradiction fun h => n ?_
  exact ⟨by omega, by omega, by omega, by omega, by omega, by omega, by omega, by omega⟩
theorem WinL.out0 (w : WinL X Y U V) (u : 0 < U) (v : 0 < V) (n : ¬ WinL (X + 2 * U) Y U V) : U + V ≤ X + 2 * U ∨ 2 * U + V ≤ X + 2 * U + Y ∨ 2 * U + V ≤ X + 2 * U - Y := by
  obtain ⟨h1, h2, h3, h4, h5, h6, h7, h8⟩ := w
  have := WinL.out n
  omega
theorem WinL.out1 (w : WinL X Y U V) (u : 0 < U) (v : 0 < V) (n : ¬ WinL (X - V) (Y + V) U V) : X - V ≤ -(U + V) ∨ U + V ≤ Y + V ∨ X - Y - 2 * V ≤ -(2 * U + V) := by
  obtain ⟨h1, h2, h3, h4, h5, h6, h7, h8⟩ := w
  have := WinL.out n
  omega
theorem WinL.out2 (w : WinL X Y U V) (u : 0 < U) (v : 0 < V) (n : ¬ WinL X (Y - 2 * U) U V) : Y - 2 * U ≤ -(U + V) ∨ X + Y - 2 * U ≤ -(2 * U + V) ∨ 2 * U + V ≤ X - Y + 2 * U := by
  obtain ⟨h1, h2, h3, h4, h5, h6, h7, h8⟩ := w
  have := WinL.out n
  omega
theorem WinL.out3 (w : WinL X Y U V) (u : 0 < U) (v : 0 < V) (n : ¬ WinL (X + V) (Y + V) U V) : U + V ≤ X + V ∨ U + V ≤ Y + V ∨ 2 * U + V ≤ X + Y + 2 * V := by
  obtain ⟨h1, h2, h3, h4, h5, h6, h7, h8⟩ := w
  have := WinL.out n
  omega
theorem WinL.out4 (w : WinL X Y U V) (u : 0 < U) (v : 0 < V) (n : ¬ WinL (X - 2 * U) Y U V) : X - 2 * U ≤ -(U + V) ∨ X - 2 * U + Y ≤ -(2 * U + V) ∨ X - 2 * U - Y ≤ -(2 * U + V) := by
  obtain ⟨h1, h2, h3, h4, h5, h6, h7, h8⟩ := w
  have := WinL.out n
  omega
theorem WinL.out5 (w : WinL X Y U V) (u : 0 < U) (v : 0 < V) (n : ¬ WinL (X + V) (Y - V) U V) : U + V ≤ X + V ∨ Y - V ≤ -(U + V) ∨ 2 * U + V ≤ X - Y + 2 * V := by
  obtain ⟨h1, h2, h3, h4, h5, h6, h7, h8⟩ := w
  have := WinL.out n
  omega
theorem WinL.out6 (w : WinL X Y U V) (u : 0 < U) (v : 0 < V) (n : ¬ WinL X (Y + 2 * U) U V) : U + V ≤ Y + 2 * U ∨ 2 * U + V ≤ X + Y + 2 * U ∨ X - Y - 2 * U ≤ -(2 * U + V) := by
  obtain ⟨h1, h2, h3, h4, h5, h6, h7, h8⟩ := w
  have := WinL.out n
  omega
theorem WinL.out7 (w : WinL X Y U V) (u : 0 < U) (v : 0 < V) (n : ¬ WinL (X - V) (Y - V) U V) : X - V ≤ -(U + V) ∨ Y - V ≤ -(U + V) ∨ X + Y - 2 * V ≤ -(2 * U + V) := by
  obtain ⟨h1, h2, h3, h4, h5, h6, h7, h8⟩ := w
  have := WinL.out n
  omega
theorem WinL.gap0 (w : WinL X Y U V) (u : 0 < U) (lo : 7 * U < 5 * V) (hi : 2 * V ≤ 3 * U) : WinL (X + 2 * U) Y U V ∨ WinL (X - V) (Y + V) U V ∨ WinL X (Y - 2 * U) U V := by
  refine Classical.byContradiction fun h => ?_
  have a := w.out0 u (by omega) fun z => h (.inl z)
  have b := w.out1 u (by omega) fun z => h (.inr (.inl z))
  have c := w.out2 u (by omega) fun z => h (.inr (.inr z))
  obtain ⟨h1, h2, h3, h4, h5, h6, h7, h8⟩ := w
  omega
theorem WinL.gap1 (w : WinL X Y U V) (u : 0 < U) (lo : 7 * U < 5 * V) (hi : 2 * V ≤ 3 * U) : WinL (X - V) (Y + V) U V ∨ WinL X (Y - 2 * U) U V ∨ WinL (X + V) (Y + V) U V := by
  refine Classical.byContradiction fun h => ?_
  have a := w.out1 u (by omega) fun z => h (.inl z)
  have b := w.out2 u (by omega) fun z => h (.inr (.inl z))
  have c := w.out3 u (by omega) fun z => h (.inr (.inr z))
  obtain ⟨h1, h2, h3, h4, h5, h6, h7, h8⟩ := w
  omega
theorem WinL.gap2 (w : WinL X Y U V) (u : 0 < U) (lo : 7 * U < 5 * V) (hi : 2 * V ≤ 3 * U) : WinL X (Y - 2 * U) U V ∨ WinL (X + V) (Y + V) U V ∨ WinL (X - 2 * U) Y U V := by
  refine Classical.byContradiction fun h => ?_
  have a := w.out2 u (by omega) fun z => h (.inl z)
  have b := w.out3 u (by omega) fun z => h (.inr (.inl z))
  have c := w.out4 u (by omega) fun z => h (.inr (.inr z))
  obtain ⟨h1, h2, h3, h4, h5, h6, h7, h8⟩ := w
  omega
theorem WinL.gap3 (w : WinL X Y U V) (u : 0 < U) (lo : 7 * U < 5 * V) (hi : 2 * V ≤ 3 * U) : WinL (X + V) (Y + V) U V ∨ WinL (X - 2 * U) Y U V ∨ WinL (X + V) (Y - V) U V := by
  refine Classical.byContradiction fun h => ?_
  have a := w.out3 u (by omega) fun z => h (.inl z)
  have b := w.out4 u (by omega) fun z => h (.inr (.inl z))
  have c := w.out5 u (by omega) fun z => h (.inr (.inr z))
  obtain ⟨h1, h2, h3, h4, h5, h6, h7, h8⟩ := w
  omega
theorem WinL.gap4 (w : WinL X Y U V) (u : 0 < U) (lo : 7 * U < 5 * V) (hi : 2 * V ≤ 3 * U) : WinL (X - 2 * U) Y U V ∨ WinL (X + V) (Y - V) U V ∨ WinL X (Y + 2 * U) U V := by
  refine Classical.byContradiction fun h => ?_
  have a := w.out4 u (by omega) fun z => h (.inl z)
  have b := w.out5 u (by omega) fun z => h (.inr (.inl z))
  have c := w.out6 u (by omega) fun z => h (.inr (.inr z))
  obtain ⟨h1, h2, h3, h4, h5, h6, h7, h8⟩ := w
  omega
theorem WinL.gap5 (w : WinL X Y U V) (u : 0 < U) (lo : 7 * U < 5 * V) (hi : 2 * V ≤ 3 * U) : WinL (X + V) (Y - V) U V ∨ WinL X (Y + 2 * U) U V ∨ WinL (X - V) (Y - V) U V := by
  refine Classical.byContradiction fun h => ?_
  have a := w.out5 u (by omega) fun z => h (.inl z)
  have b := w.out6 u (by omega) fun z => h (.inr (.inl z))
  have c := w.out7 u (by omega) fun z => h (.inr (.inr z))
  obtain ⟨h1, h2, h3, h4, h5, h6, h7, h8⟩ := w
  omega
theorem WinL.gap6 (w : WinL X Y U V) (u : 0 < U) (lo : 7 * U < 5 * V) (hi : 2 * V ≤ 3 * U) : WinL X (Y + 2 * U) U V ∨ WinL (X - V) (Y - V) U V ∨ WinL (X + 2 * U) Y U V := by
  refine Classical.byContradiction fun h => ?_
  have a := w.out6 u (by omega) fun z => h (.inl z)
  have b := w.out7 u (by omega) fun z => h (.inr (.inl z))
  have c := w.out0 u (by omega) fun z => h (.inr (.inr z))
  obtain ⟨h1, h2, h3, h4, h5, h6, h7, h8⟩ := w
  omega
theorem WinL.gap7 (w : WinL X Y U V) (u : 0 < U) (lo : 7 * U < 5 * V) (hi : 2 * V ≤ 3 * U) : WinL (X - V) (Y - V) U V ∨ WinL (X + 2 * U) Y U V ∨ WinL (X - V) (Y + V) U V := by
  refine Classical.byContradiction fun h => ?_
  have a := w.out7 u (by omega) fun z => h (.inl z)
  have b := w.out0 u (by omega) fun z => h (.inr (.inl z))
  have c := w.out1 u (by omega) fun z => h (.inr (.inr z))
  obtain ⟨h1, h2, h3, h4, h5, h6, h7, h8⟩ := w
  omega
end
end L2.My

/-! W15: a op1 b op2 c op3 d. -/
namespace L2.My
open PySem PySem.Spec PyProof.Rows
section
variable {X : Cx} {a b c d : Expr} {ta tb tc td : TE} {pos : Pos}
/-- a op1 b op2 c op3 d -/
def tChain3 (r r' r'' : R2) (ta tb tc td : TE) : TE := fun σ H Q => ta σ H fun x H1 => tb σ H1 fun y H2 => r x y H2 fun z H3 => ∃ k, z = .bl k ∧
  (if k = true then tc σ H3 fun w' H4 => r' y w' H4 fun z2 H5 => ∃ k2, z2 = .bl k2 ∧ (if k2 = true then td σ H5 fun w'' H6 => r'' w' w'' H6 Q else Q (.bl false) H5) else Q (.bl false) H3)
theorem w_chain3 {r r' r'' : R2} {σ : L2.St} {H : Hp} {Q : VK} (q : ta σ H fun x H1 => tb σ H1 fun y H2 => r x y H2 fun z H3 => ∃ k, z = .bl k ∧
  (if k = true then tc σ H3 fun w' H4 => r' y w' H4 fun z2 H5 => ∃ k2, z2 = .bl k2 ∧ (if k2 = true then td σ H5 fun w'' H6 => r'' w' w'' H6 Q else Q (.bl false) H5) else Q (.bl false) H3)) : tChain3 r r' r'' ta tb tc td σ H Q := q
theorem pe_chain3 {op op' op'' : CmpOp} {r r' r'' : R2} (ho : OpR X (compareOp op) r) (ho' : OpR X (compareOp op') r') (ho'' : OpR X (compareOp op'') r'') (ha : PE X a ta) (hb : PE X b tb) (hc : PE X c tc) (hd : PE X d td)
    (hm : lastMarks [op, op', op''] [b, c, d] = false := by with_unfolding_all rfl) : PE X (.Compare a [op, op', op''] [b, c, d] pos) (tChain3 r r' r'' ta tb tc td) := by
  refine ⟨fun pins s σ H Q I h => ?_⟩
  refine Compare_chain (thn (ha.run pins s σ H _ I h) fun v s1 ⟨x, H1, I1, r1, q1⟩ => chain_link (thn (hb.run pins s1 σ H1 _ I1 q1) fun u s2 ⟨y, H2, I2, r2, q2⟩ =>
    thn (ho pins s2 σ H2 x y v u _ I2 r1 r2 q2) fun d s3 ⟨z, H3, I3, r3, k, e, q3⟩ => ?_)) hm
  subst e
  cases r3
  refine wpAny_truthy_bool ?_
  cases k with
  | false => exact ite_ff ⟨.bl false, H3, I3, rfl, q3⟩
  | true =>
    refine ite_tt (chain_link (thn (hc.run pins s3 σ H3 _ I3 q3) fun w1 s4 ⟨y2, H4, I4, r4, q4⟩ => thn (ho' pins s4 σ H4 y y2 u w1 _ I4 r2 r4 q4) fun d2 s5 ⟨z2, H5, I5, r5, k2, e2, q5⟩ => ?_))
    subst e2
    cases r5
    refine wpAny_truthy_bool ?_
    cases k2 with
    | false => exact ite_ff ⟨.bl false, H5, I5, rfl, q5⟩
    | true => exact ite_tt (chain_last (thn (hd.run pins s5 σ H5 _ I5 q5) fun w2 s6 ⟨y3, H6, I6, r6, q6⟩ => ho'' pins s6 σ H6 y2 y3 w1 w2 Q I6 r4 r6 q6))
end
/-! ### rules with the fragment told: a comprehension's context bears its own variables -/
theorem sl_tupZ {X : Cx} {K : PySem.W.Frag} (h : X.K = K) : SlR X (rSlA K) := by
  subst h
  exact sl_tupA
theorem op_catZ {X : Cx} {K : PySem.W.Frag} (h : X.K = K) : OpR X (binaryOp .Add) (rCatA K) := by
  subst h
  exact op_catA
theorem room65 {k : Nat} {A : Around} (r : Room k A) : A.units + 65 < cLine := by
  have := r.un
  omega
/-! ### walks over a list or a tuple -/
section
variable {X : Cx} {tg l : Expr} {w w' : TI} {tl : TE} {g : TG} {tb : TS} {D : Ends} {tt : TT} {te : TE} {ws : List Nat} {σ : L2.St} {H : Hp} {Q : VK}
def iOr (w w' : TI) : TI := fun σ H R => w σ H R ∨ w' σ H R
theorem PI.or (h : PI X tg l w) (h' : PI X tg l w') : PI X tg l (iOr w w') := ⟨fun pins s σ H R I q => q.elim (h.run pins s σ H R I) (h'.run pins s σ H R I)⟩
theorem pi_seq (hl : PE X l tl) : PI X tg l (iOr (iList X.K tl) (iTup X.K tl)) := PI.or (pi_list hl) (pi_tup hl)
theorem w_forOL (q : tFor w g tb D σ H) : tFor (iOr w w') g tb D σ H := .inl q
theorem w_forOT (q : tFor w' g tb D σ H) : tFor (iOr w w') g tb D σ H := .inr q
theorem w_lcOL (q : tLc w g tt te ws σ H Q) : tLc (iOr w w') g tt te ws σ H Q := .inl q
theorem w_lcOT (q : tLc w' g tt te ws σ H Q) : tLc (iOr w w') g tt te ws σ H Q := .inr q
end
end L2.My

/-! W16: fields in a comprehension. -/
namespace L2.My
open PySem PySem.Spec PyProof.Rows
section
variable {X : Cx} {e : Expr} {ta : TE} {pos : Pos} {f : Str} {K : PySem.W.Frag}
theorem pe_fldZ (h : X.K = K) (he : PE X e ta) (hb : attributeBase e f X.env (eval e X.env) = eval e X.env) : PE X (.Attribute e f pos) (tFld K ta f) := h ▸ pe_fld he hb
end
end L2.My

/-! W17: sorted of a list of data. -/
namespace L2.My
open PySem PySem.Spec PyProof.Rows
section
variable {X : Cx}
theorem each_rel {H : Hp} {pins : List (Addr × Obj)} {σ : St} {s : Shared} (I : Inv X pins σ H s) : ∀ {xs : List V} {ds : List PyData} {us : List Value}, Vals xs us → DpAll X.K H xs ds → PySem.W.EachIs (fun u (b : V × PyData) => RelV b.1 u ∧ ∃ as, Reads s.heap u b.2 as) us (xs.zip ds)
  | [], _, _, r, h => by
    cases h
    cases r
    exact .nil
  | x :: xs, _, _, r, h => by
    cases h with
    | cons hd ht =>
      cases r with
      | cons r1 rt => exact .cons ⟨r1, Dp.reads I _ _ _ hd r1⟩ (each_rel I rt ht)
theorem rel_each : ∀ {bs : List (V × PyData)} {us : List Value}, PySem.W.EachIs (fun u (b : V × PyData) => RelV b.1 u) us bs → Vals (bs.map Prod.fst) us
  | [], _, h => by
    cases h
    exact .nil
  | b :: bs, _, h => by
    cases h with
    | cons h1 ht => exact .cons h1 (rel_each ht)
theorem dp_len {K : PySem.W.Frag} {H : Hp} : ∀ {xs : List V} {ds : List PyData}, DpAll K H xs ds → xs.length = ds.length
  | [], _, h => by cases h; rfl
  | _ :: _, _, h => by
    cases h with
    | cons _ t => exact congrArg (· + 1) (dp_len t)
theorem zip_snd : ∀ {xs : List V} {ds : List PyData}, xs.length = ds.length → (xs.zip ds).map Prod.snd = ds
  | [], [], _ => rfl
  | x :: xs, d :: ds, h => by
    rw [List.zip_cons_cons, List.map_cons, zip_snd (Nat.succ.inj h)]
/-- the values xs, which read as ds, in order -/
def srtD (xs : List V) (ds : List PyData) : List (V × PyData) := (xs.zip ds).mergeSort (PySem.W.dataLe false Prod.snd)
def rSortedD (K : PySem.W.Frag) : List V → Hp → VK → Prop := fun vs H Q => ∃ a xs ds, vs = [.ref a] ∧ SqL K H a xs ∧ DpAll K H xs ds ∧ PySem.W.AllAlike ds ∧ PySem.W.Sortable ds ∧ (∀ d ∈ ds, d.depth ≤ 20) ∧
  ∀ p, H p = none → Q (.ref p) (upd H p (.lst ((srtD xs ds).map Prod.fst)))
theorem cr_sortedD (hu : X.A.units + 64 < cLine) : CallR X (.builtin "sorted") (rSortedD X.K) := by
  intro pins s σ H vs us Q I r h
  obtain ⟨a, xs, ds, rfl, hs, hd, al, so, hde, q⟩ := h
  obtain ⟨its, rv, hl, hz⟩ := I.list hs
  rw [Vals.ref1 r]
  have e := each_rel I rv hd
  have hzs := zip_snd (dp_len hd)
  have hlz : (xs.zip ds).length = xs.length := by rw [List.length_zip, ← dp_len hd, Nat.min_self]
  refine PySem.W.sorted_data (R := fun u (b : V × PyData) => RelV b.1 u) (bs := xs.zip ds) (enc := Prod.snd) hl.isList (e.mono fun _ _ h => h.1) (e.mono fun _ _ h => h.2) (by rw [hzs]; exact al) (by rw [hzs]; exact so) (by rw [hlz]; exact hz) (fun b hb => ?_) fun out ho hout => ?_
  · have : b.2 ∈ ds := by
      rw [← hzs]
      exact List.mem_map.mpr ⟨b, hb, rfl⟩
    have := hde _ this
    omega
  · obtain ⟨ep, he'⟩ := PyProof.Rows.sortedAll_at s.heap its out.toArray
    have hv := rel_each hout
    have hlen : ((srtD xs ds).map Prod.fst).length ≤ sizeLine := by
      rw [List.length_map]
      unfold srtD
      rw [List.length_mergeSort, hlz]
      exact hz
    exact ⟨.ref _, upd H (s.heap.objs.size + 1) (.lst ((srtD xs ds).map Prod.fst)), I.laid (t' := s.toks) (fun _ _ => PyProof.Rows.sortedAll_old) (Nat.le_succ _) ⟨hlen, out, ep, hv, he'⟩, rfl, q _ (I.hok.fresh (Nat.le_succ _))⟩
end
/-- the order of data: a value with what it reads as -/
theorem srtD_perm {xs : List V} {ds : List PyData} : (srtD xs ds).Perm (xs.zip ds) := List.mergeSort_perm _ _
end L2.My

/-! W18: a dict display of one pair, its key a tuple of ints and texts. -/
namespace L2.My
open PySem PySem.Spec PyProof.Rows
section
variable {X : Cx} {k v : Expr} {tk tv : TE} {pos : Pos}
def tDispT (tk tv : TE) : TE := fun σ H Q => ∀ p, H p = none → tk σ (upd H p (.dT [])) fun x H1 => tv σ H1 fun y H2 => H2 p = some (.dT []) ∧ ∃ (b : Addr) (kk : List L2.Key), x = .ref b ∧ H2 b = some (.tup (kk.map kV)) ∧ Q (.ref p) (upd H2 p (.dT [(kk, y)]))
theorem w_dispT {σ : L2.St} {H : Hp} {Q : VK} (q : ∀ p, H p = none → tk σ (upd H p (.dT [])) fun x H1 => tv σ H1 fun y H2 => H2 p = some (.dT []) ∧ ∃ (b : Addr) (kk : List L2.Key), x = .ref b ∧ H2 b = some (.tup (kk.map kV)) ∧ Q (.ref p) (upd H2 p (.dT [(kk, y)]))) : tDispT tk tv σ H Q := q
theorem pe_dispT (hu : X.A.units + 64 < cLine) (hk : PE X k tk) (hv : PE X v tv) : PE X (.Dict [some k] [v] pos) (tDispT tk tv) := by
  refine ⟨fun pins s σ H Q I q => ?_⟩
  have hn := I.hok.fresh (Nat.le_refl s.heap.objs.size)
  have I1 := I.laid (a := s.heap.objs.size) (o := .dT []) (h' := s.heap.push { cls := .type "dict", data := .dict #[] }) (t' := s.toks) (fun _ _ q => Heap.get?_push_of_some _ q) (Nat.le_refl _) (dt_empty s.heap I.big)
  have hl := pairTrees_length [some k] [v] X.env pos rfl rfl
  have hl1 : (pairTrees [some k] [v] X.env pos).length = 1 := hl
  rw [arm_eval_Dict, zip_pairTrees [some k] [v] X.env pos rfl rfl, dictDisplay_pairs _ (by intro e; rw [e] at hl1; cases hl1) (by omega)]
  refine wpAny_bind (wpAny_standAt (wpAny_bind (wpAny_subDictH (knd := tupleKind (mixKind X.prog X.w)) (show X.A.units < cLine by omega) (by omega) ?_)))
  refine pairTrees_cons_walk (thn (hk.run pins _ σ _ _ I1 (q _ hn)) fun u s1 ⟨x, H1, I1, rx, q1⟩ => thn (hv.run pins s1 σ H1 _ I1 q1) fun w2 s2 ⟨y, H2, I2, ry, e, b, kk, ex, eb, q2⟩ => pairTrees_nil_walk ?_)
  subst ex
  cases (show u = Value.ref b from rx)
  obtain ⟨z, hd, xs, rel, dd⟩ := dt_of I2.hok e
  cases rel
  refine ⟨[(kk, b, w2)], ⟨rfl, rfl, key_of I2.hok eb, trivial⟩, dd, fun h' tk' dd' hs => wpAny_pure ?_⟩
  obtain ⟨q', es, ep, hq, h2, h3, h4, _, h5⟩ := dd'
  have hz : [(kk, y)].length ≤ sizeLine := by
    rw [sizeLine_eq]
    exact Nat.le_of_ble_eq_true rfl
  have rel0 : KT H2 [] [] := .nil
  refine ⟨.ref s.heap.objs.size, upd H2 s.heap.objs.size (.dT [(kk, y)]), d_write I2 (by rw [e]; exact True.intro) hs ⟨q', hq⟩ ⟨hz, hd, _, (rel0.put kk eb ry).keeps fun c ys ec => ?_, q', es, ep, hq, h2, h3, h4, h5⟩, rfl, q2⟩
  rw [upd_ne (ne_of ec e (fun z => nomatch z))]
  exact ec
end
end L2.My

/-! W19: steps for dicts with tuple keys; lists sorted by data; few numbers below a bound. -/
namespace L2.My
open PySem PySem.Spec PyProof.Rows
def DninP (x y : V) (H : Hp) (Q : VK) : Prop := ∃ a o, x = .ref a ∧ DGet H a y o ∧ Q (.bl (!o.isSome)) H
theorem w_dnin {ty td : TE} {σ : L2.St} {H : Hp} {Q : VK} (q : ty σ H fun y H1 => td σ H1 fun x H2 => DninP x y H2 Q) : tDNotIn ty td σ H Q := q
theorem k_dninT {a b : Addr} {kvs : List (List L2.Key × V)} {k : List L2.Key} {H : Hp} {Q : VK} (h : H a = some (.dT kvs)) (hb : H b = some (.tup (k.map kV))) (q : Q (.bl (!(valV kvs k).isSome)) H) : DninP (.ref a) (.ref b) H Q := ⟨a, _, rfl, DGet.t h hb, q⟩
def DputP (x y v : V) (H : Hp) (N : Hp → Prop) : Prop := ∃ a H4, x = .ref a ∧ DPut H a y v H4 ∧ N H4
theorem w_dput {td ty tv : TE} {nx bk ct : L2.St → Hp → Prop} {rt : VK} {σ : L2.St} {H : Hp} (q : tv σ H fun v H1 => td σ H1 fun x H2 => ty σ H2 fun y H3 => DputP x y v H3 (nx σ)) : sDPut td ty tv ⟨nx, rt, bk, ct⟩ σ H := q
theorem k_dputT {a b : Addr} {kvs : List (List L2.Key × V)} {k : List L2.Key} {v : V} {H : Hp} {N : Hp → Prop} (h : H a = some (.dT kvs)) (hb : H b = some (.tup (k.map kV))) (hl : kvs.length < sizeLine) (q : N (upd H a (.dT (putK kvs k v)))) : DputP (.ref a) (.ref b) v H N := ⟨a, _, rfl, DPut.t h hb hl, q⟩
/-- all but tracked lists and dicts with tuple keys stays -/
def Kpt (H H' : Hp) : Prop := ∀ b o, (∀ xs, o ≠ .lst xs) → (∀ ks, o ≠ .dT ks) → H b = some o → H' b = some o
theorem Kpt.refl (H : Hp) : Kpt H H := fun _ _ _ _ h => h
theorem Kpt.trans {A B C : Hp} (h : Kpt A B) (k : Kpt B C) : Kpt A C := fun b o n m e => k b o n m (h b o n m e)
theorem Kpt.same {A B : Hp} (h : Same A B) : Kpt A B := fun b o _ _ e => h b o e
theorem Kpt.kps {A B : Hp} (h : Kps A B) : Kpt A B := fun b o n _ e => h b o n e
theorem Kpt.tup {A B : Hp} (h : Kpt A B) {a : Addr} {xs : List V} (e : A a = some (.tup xs)) : B a = some (.tup xs) := h _ _ (by intro xs z; cases z) (by intro xs z; cases z) e
theorem Kpt.updL {A : Hp} {p : Addr} {xs : List V} {o : HO} (h : A p = some (.lst xs)) : Kpt A (upd A p o) := fun b o' n _ e => by rw [upd_ne (fun z => by rw [z, h] at e; cases e; exact n _ rfl)]; exact e
theorem Kpt.updD {A : Hp} {p : Addr} {ks : List (List L2.Key × V)} {o : HO} (h : A p = some (.dT ks)) : Kpt A (upd A p o) := fun b o' _ m e => by rw [upd_ne (fun z => by rw [z, h] at e; cases e; exact m _ rfl)]; exact e
/-- unlike numbers below a bound are few -/
theorem nodup_lt : ∀ (n : Nat) (l : List Nat), l.Nodup → (∀ x ∈ l, x < n) → l.length ≤ n
  | 0, l, _, h => by
    cases l with
    | nil => exact Nat.le_refl _
    | cons x l => exact absurd (h x (by simp)) (by omega)
  | n + 1, l, d, h => by
    by_cases m : n ∈ l
    · have := nodup_lt n (l.erase n) (d.erase _) fun x hx => by
        have h1 := (d.mem_erase_iff).mp hx
        have := h x h1.2
        have h2 := h1.1
        omega
      rw [List.length_erase_of_mem m] at this
      omega
    · have := nodup_lt n l d fun x hx => by
        have h1 := h x hx
        have : x ≠ n := fun z => m (z ▸ hx)
        omega
      omega
/-- a row of unlike things that a number below a bound tells apart is short -/
theorem nodup_few {α : Type} {l : List α} {n : Nat} (f : α → Nat) (d : l.Nodup) (h : ∀ x ∈ l, f x < n) (inj : ∀ x ∈ l, ∀ y ∈ l, f x = f y → x = y) : l.length ≤ n := by
  have := nodup_lt n (l.map f) ?_ ?_
  · rwa [List.length_map] at this
  · exact (List.pairwise_map).mpr (d.imp_of_mem fun hx hy n z => n (inj _ hx _ hy z))
  · intro x hx
    obtain ⟨y, hy, rfl⟩ := List.mem_map.mp hx
    exact h y hy
end L2.My

/-! W20: t.index(x) of a tuple of ints. -/
namespace L2.My
open PySem PySem.Spec PyProof.Rows
theorem flat_intsW (ys : List Int) : (ys.map V.int).all flatV = true := by
  rw [List.all_map]
  exact List.all_eq_true.mpr fun _ _ => rfl
section
variable {X : Cx}
def rTupIx (K : PySem.W.Frag) : V → List V → Hp → VK → Prop := fun x xs H Q => ∃ (p : Addr) (ys : List Int) (z : Int) (j : Nat), x = .ref p ∧ xs = [.int z] ∧ SqT K H p (ys.map V.int) ∧ ys[j]? = some z ∧ (∀ m, m < j → ys[m]? ≠ some z) ∧ Q (.int (j : Nat)) H
theorem mt_tupIx : MtR X "tuple.index" (rTupIx X.K) := by
  intro pins s σ H x xs v us Q I rx rs h
  obtain ⟨p, ys, z, j, rfl, rfl, hq, hy, hno, q⟩ := h
  cases rx
  obtain ⟨u, rfl, t, rfl⟩ := vals1 rs
  obtain ⟨its, r, pl, hz⟩ := I.tuple hq
  obtain ⟨⟨cls, dd, dt, sl⟩, ho, hc, n, hd⟩ := pl
  simp only at hc hd
  subst hc
  subst hd
  have hl : its.toArray.size = ys.length := by rw [List.size_toArray, ← r.length, List.length_map]
  have hj : j < its.toArray.size := by rw [hl]; exact (List.getElem?_eq_some_iff.mp hy).1
  have at' : ∀ (m : Nat) (hm : m < its.toArray.size), ∃ y t', ys[m]? = some y ∧ its.toArray[m] = Value.int y t' := fun m hm => by
    have hm' : m < ys.length := by rw [← hl]; exact hm
    obtain ⟨w, hw, t', hw'⟩ := r.get (i := m) (x := .int ys[m]) (by simp [hm'])
    refine ⟨ys[m], t', List.getElem?_eq_getElem hm', ?_⟩
    have e := (List.getElem?_eq_some_iff.mp hw).2
    rw [← hw', ← e]
    simp
  refine call_meets PySem.F.slot_tuple_index ⟨_, ho, rfl⟩ PySem.F.entry_tuple_index (PySem.F.args_tuple_index_2 _ _) (TI.tuple_indexAt p its.toArray n dd sl (.int z t) (eqU (.int z)) j hj ?_ ?_)
    ⟨ho, fun w hw => mem_eqAt (x := .int z) ⟨t, rfl⟩ rfl r (flat_intsW ys) w (by simpa using hw), ⟨.int (j : Nat), H, I.tok _, ⟨_, rfl⟩, q⟩⟩
  · obtain ⟨y, t', h1, h2⟩ := at' j hj
    rw [hy] at h1
    cases h1
    rw [h2]
    show (z == z) = true
    exact beq_self_eq_true z
  · intro m hm hmj
    obtain ⟨y, t', h1, h2⟩ := at' m hm
    rw [h2]
    show (y == z) = false
    exact beq_eq_false_iff_ne.mpr fun e => hno m hmj (e ▸ h1)
end
end L2.My

/-! W21: the tiles about a corner close, and lie between sides one behind the other (the window's numbers, linear). -/
namespace L2.My
/-- the direction d among the eight, in the window's numbers -/
def gX (U V X : Int) (d : Nat) : Int := match d with
  | 0 => X + 2 * U | 1 => X - V | 2 => X | 3 => X + V | 4 => X - 2 * U | 5 => X + V | 6 => X | _ => X - V
def gY (U V Y : Int) (d : Nat) : Int := match d with
  | 0 => Y | 1 => Y + V | 2 => Y - 2 * U | 3 => Y + V | 4 => Y | 5 => Y - V | 6 => Y + 2 * U | _ => Y - V
/-- the corner, the next ones, and the one that comes by both -/
def clo1 (X Y U V : Int) (d e : Nat) : Prop := WinL X Y U V → WinL (gX U V X d) (gY U V Y d) U V → WinL (gX U V X e) (gY U V Y e) U V → WinL (gX U V (gX U V X d) e) (gY U V (gY U V Y d) e) U V
theorem clo_one {X Y U V : Int} (u : 0 < U) (lo : 7 * U < 5 * V) (hi : 2 * V ≤ 3 * U) : ∀ d, d < 8 → clo1 X Y U V d ((d + 1) % 8) := by
  intro d hd h0 h1 h2
  have cs : d = 0 ∨ d = 1 ∨ d = 2 ∨ d = 3 ∨ d = 4 ∨ d = 5 ∨ d = 6 ∨ d = 7 := by omega
  rcases cs with rfl | rfl | rfl | rfl | rfl | rfl | rfl | rfl
  all_goals
    obtain ⟨a1, a2, a3, a4, a5, a6, a7, a8⟩ := h0
    obtain ⟨b1, b2, b3, b4, b5, b6, b7, b8⟩ := h1
    obtain ⟨c1, c2, c3, c4, c5, c6, c7, c8⟩ := h2
    simp only [gX, gY, Nat.reduceAdd, Nat.reduceMod] at *
    constructor <;> omega
/-- not on the rim -/
structure Off (X Y U V : Int) : Prop where
  x1 : X ≠ U + V
  x2 : X ≠ -(U + V)
  y1 : Y ≠ U + V
  y2 : Y ≠ -(U + V)
  s1 : X + Y ≠ 2 * U + V
  s2 : X + Y ≠ -(2 * U + V)
  d1 : X - Y ≠ 2 * U + V
  d2 : X - Y ≠ -(2 * U + V)
theorem out_off {X Y U V : Int} (n : ¬ WinL X Y U V) (f : Off X Y U V) : U + V < X ∨ X < -(U + V) ∨ U + V < Y ∨ Y < -(U + V) ∨ 2 * U + V < X + Y ∨ X + Y < -(2 * U + V) ∨ 2 * U + V < X - Y ∨ X - Y < -(2 * U + V) := by
  obtain ⟨f1, f2, f3, f4, f5, f6, f7, f8⟩ := f
  have := WinL.out n
  omega
theorem clo_two {X Y U V : Int} (u : 0 < U) (lo : 7 * U < 5 * V) (hi : 2 * V ≤ 3 * U) : ∀ d, d < 8 → ¬ WinL (gX U V X ((d + 1) % 8)) (gY U V Y ((d + 1) % 8)) U V → Off (gX U V X ((d + 1) % 8)) (gY U V Y ((d + 1) % 8)) U V → clo1 X Y U V d ((d + 2) % 8) := by
  intro d hd n f h0 h1 h2
  have v : 0 < V := by omega
  have o := out_off n f
  clear n f
  have cs : d = 0 ∨ d = 1 ∨ d = 2 ∨ d = 3 ∨ d = 4 ∨ d = 5 ∨ d = 6 ∨ d = 7 := by omega
  rcases cs with rfl | rfl | rfl | rfl | rfl | rfl | rfl | rfl
  all_goals
    obtain ⟨a1, a2, a3, a4, a5, a6, a7, a8⟩ := h0
    obtain ⟨b1, b2, b3, b4, b5, b6, b7, b8⟩ := h1
    obtain ⟨c1, c2, c3, c4, c5, c6, c7, c8⟩ := h2
    simp only [gX, gY, Nat.reduceAdd, Nat.reduceMod] at *
    constructor <;> omega
theorem clo_three {X Y U V : Int} (u : 0 < U) (lo : 7 * U < 5 * V) (hi : 2 * V ≤ 3 * U) : ∀ d, d < 8 → ¬ WinL (gX U V X ((d + 1) % 8)) (gY U V Y ((d + 1) % 8)) U V → ¬ WinL (gX U V X ((d + 2) % 8)) (gY U V Y ((d + 2) % 8)) U V → Off (gX U V X ((d + 1) % 8)) (gY U V Y ((d + 1) % 8)) U V → Off (gX U V X ((d + 2) % 8)) (gY U V Y ((d + 2) % 8)) U V → clo1 X Y U V d ((d + 3) % 8) := by
  intro d hd n m f f2 h0 h1 h2
  have v : 0 < V := by omega
  have o := out_off n f
  have o2 := out_off m f2
  clear n m f f2
  have cs : d = 0 ∨ d = 1 ∨ d = 2 ∨ d = 3 ∨ d = 4 ∨ d = 5 ∨ d = 6 ∨ d = 7 := by omega
  rcases cs with rfl | rfl | rfl | rfl | rfl | rfl | rfl | rfl
  all_goals
    obtain ⟨a1, a2, a3, a4, a5, a6, a7, a8⟩ := h0
    obtain ⟨b1, b2, b3, b4, b5, b6, b7, b8⟩ := h1
    obtain ⟨c1, c2, c3, c4, c5, c6, c7, c8⟩ := h2
    simp only [gX, gY, Nat.reduceAdd, Nat.reduceMod] at *
    constructor <;> omega
/-- a tile of the floor: no side lies within it -/
def in4 (X Y U V : Int) (d e : Nat) : Prop := WinL X Y U V ∧ WinL (gX U V X d) (gY U V Y d) U V ∧ WinL (gX U V X e) (gY U V Y e) U V ∧ WinL (gX U V (gX U V X d) e) (gY U V (gY U V Y d) e) U V
theorem non_two {X Y U V : Int} (u : 0 < U) (lo : 7 * U < 5 * V) (hi : 2 * V ≤ 3 * U) : ∀ d, d < 8 → in4 X Y U V d ((d + 2) % 8) → ¬ WinL (gX U V X ((d + 1) % 8)) (gY U V Y ((d + 1) % 8)) U V := by
  intro d hd ⟨h0, h1, h2, h3⟩ n
  have v : 0 < V := by omega
  have cs : d = 0 ∨ d = 1 ∨ d = 2 ∨ d = 3 ∨ d = 4 ∨ d = 5 ∨ d = 6 ∨ d = 7 := by omega
  rcases cs with rfl | rfl | rfl | rfl | rfl | rfl | rfl | rfl
  all_goals
    obtain ⟨a1, a2, a3, a4, a5, a6, a7, a8⟩ := h0
    obtain ⟨b1, b2, b3, b4, b5, b6, b7, b8⟩ := h1
    obtain ⟨c1, c2, c3, c4, c5, c6, c7, c8⟩ := h2
    obtain ⟨e1, e2, e3, e4, e5, e6, e7, e8⟩ := h3
    obtain ⟨f1, f2, f3, f4, f5, f6, f7, f8⟩ := n
    simp only [gX, gY, Nat.reduceAdd, Nat.reduceMod] at *
    omega
theorem non_three {X Y U V : Int} (u : 0 < U) (lo : 7 * U < 5 * V) (hi : 2 * V ≤ 3 * U) : ∀ d, d < 8 → in4 X Y U V d ((d + 3) % 8) → ¬ WinL (gX U V X ((d + 1) % 8)) (gY U V Y ((d + 1) % 8)) U V ∧ ¬ WinL (gX U V X ((d + 2) % 8)) (gY U V Y ((d + 2) % 8)) U V := by
  intro d hd ⟨h0, h1, h2, h3⟩
  have v : 0 < V := by omega
  have cs : d = 0 ∨ d = 1 ∨ d = 2 ∨ d = 3 ∨ d = 4 ∨ d = 5 ∨ d = 6 ∨ d = 7 := by omega
  rcases cs with rfl | rfl | rfl | rfl | rfl | rfl | rfl | rfl
  all_goals
    obtain ⟨a1, a2, a3, a4, a5, a6, a7, a8⟩ := h0
    obtain ⟨b1, b2, b3, b4, b5, b6, b7, b8⟩ := h1
    obtain ⟨c1, c2, c3, c4, c5, c6, c7, c8⟩ := h2
    obtain ⟨e1, e2, e3, e4, e5, e6, e7, e8⟩ := h3
    constructor
    all_goals
      intro n
      obtain ⟨f1, f2, f3, f4, f5, f6, f7, f8⟩ := n
      simp only [gX, gY, Nat.reduceAdd, Nat.reduceMod] at *
      omega
end L2.My

/-! W22: a comprehension over a zip of two lists. -/
namespace L2.My
open PySem PySem.Spec PyProof.Rows
section
variable {K : PySem.W.Frag} {σ : L2.St} {H : Hp} {Q : VK} {a b : Addr} {xs ys : List V} {te : TE} {ws : List Nat} {g : TG} {tt : TT}
theorem k_lcZL (Pv : Nat → Addr → Hp → Prop) (ha : H a = some (.lst xs)) (hb : H b = some (.lst ys)) (e : xs.length = ys.length) (h0 : ∀ D, H D = none → Pv 0 D (upd H D (.lst []))) (hl : ∀ i D H', Pv i D H' → H' a = some (.lst xs) ∧ H' b = some (.lst ys))
    (hs : ∀ i x y D H T H', xs[i]? = some x → ys[i]? = some y → Pv i D H → H T = none → Same H H' → H' T = some (.tup [x, y]) → g (.ref T) (wipe σ ws) H' fun σ2 H2 => wipe σ2 ws = wipe σ ws ∧ tt σ2 H2 fun b H3 =>
      if b = true then te σ2 H3 fun z H4 => ∃ acc, H4 D = some (.lst acc) ∧ acc.length < sizeLine ∧ Pv (i + 1) D (upd H4 D (.lst (acc ++ [z]))) else Pv (i + 1) D H3) (hd : ∀ D H, Pv xs.length D H → Q (.ref D) H) : CompZT K g tt te ws σ [.ref a, .ref b] H Q := by
  refine ⟨a, b, xs, ys, rfl, .inl ⟨SqL.of ha, SqL.of hb, fun D hD => ⟨fun i m H => Pv i D H ∧ m + i = xs.length, ⟨xs.length, h0 D hD, rfl⟩, fun i m H ⟨q, em⟩ => ?_⟩⟩⟩
  obtain ⟨l1, l2⟩ := hl i D H q
  rcases Nat.lt_or_ge i xs.length with h | h
  · right
    have ex : xs[i]? = some xs[i] := List.getElem?_eq_getElem h
    have ey : ys[i]? = some (ys[i]'(by omega)) := List.getElem?_eq_getElem (by omega)
    refine ⟨⟨xs, ys, _, _, SqL.of l1, SqL.of l2, ex, ey⟩, Pv (i + 1) D, fun H' q' => ⟨m - 1, by omega, q', by omega⟩, ?_⟩
    rintro x H' ⟨T, x', y', rfl, hT, rfl, h1, h2⟩
    exact hs i x' y' D H T _ (h1 xs (SqL.of l1)) (h2 ys (SqL.of l2)) q hT (Same.new hT) upd_same
  · left
    obtain rfl : i = xs.length := by omega
    exact ⟨⟨xs, ys, SqL.of l1, SqL.of l2, .inl (Nat.le_refl _)⟩, hd D H q⟩
end
end L2.My

/-! W23: != of two lists, or two tuples, with the same things in them. -/
namespace L2.My
open PySem PySem.Spec PyProof.Rows
theorem eqV_refl {v : V} (h : flatV v = true) : eqV v v = true := by
  cases v with
  | non => rfl
  | bl b => cases b <;> rfl
  | int i => exact beq_self_eq_true i
  | str z => exact beq_self_eq_true z
  | _ => cases h
section
variable {X : Cx}
theorem same_items {A : Around} {s : Shared} {xs : List V} {us ws : List Value} (r : Vals xs us) (r2 : Vals xs ws) (hx : ∀ v ∈ xs, flatV v = true ∨ ∃ p, v = .ref p) (j : Nat) (h1 : j < us.toArray.size) (h2 : j < ws.toArray.size) : SeqAt.EqAt A s us.toArray[j] ws.toArray[j] true := by
  have l1 : j < us.length := by simpa using h1
  have hj : j < xs.length := by rw [r.length]; exact l1
  obtain ⟨u, hu, ru⟩ := r.get (i := j) (List.getElem?_eq_getElem hj)
  obtain ⟨w, hw, rw'⟩ := r2.get (i := j) (List.getElem?_eq_getElem hj)
  have e1 : us.toArray[j] = u := by simpa using (List.getElem?_eq_some_iff.mp hu).2
  have e2 : ws.toArray[j] = w := by simpa using (List.getElem?_eq_some_iff.mp hw).2
  rw [e1, e2]
  rcases hx _ (List.getElem_mem hj) with f | ⟨p, e⟩
  · have := eqAt_V (A := A) (s := s) ru rw' f f
    rwa [eqV_refl f] at this
  · rw [e] at ru rw'
    cases ru
    cases rw'
    exact SeqAt.EqAt.same _
/-- two lists, or two tuples, of the same things -/
def rNeSame (K : PySem.W.Frag) : R2 := fun x y H Q => ∃ a b xs, x = .ref a ∧ y = .ref b ∧ (SqL K H a xs ∧ SqL K H b xs ∨ SqT K H a xs ∧ SqT K H b xs) ∧ (∀ v ∈ xs, flatV v = true ∨ ∃ p, v = .ref p) ∧ Q (.bl false) H
theorem op_neSame (hu : X.A.units + 64 < cLine) : OpR X (compareOp .NotEq) (rNeSame X.K) := by
  intro pins s σ H x y v u Q I rx ry h
  obtain ⟨a, b, xs, rfl, rfl, hab, hx, q⟩ := h
  cases rx
  cases ry
  rcases hab with ⟨ha, hb⟩ | ⟨ha, hb⟩
  · obtain ⟨its, r, pl, hz⟩ := I.list ha
    obtain ⟨its2, r2, pl2, hz2⟩ := I.list hb
    have l1 := r.length
    have l2 := r2.length
    have hsz : its.toArray.size = its2.toArray.size := by rw [List.size_toArray, List.size_toArray]; omega
    refine SeqAt.RcNeAt.lists (e := fun _ => true) pl.isList pl2.isList hsz (by omega) (fun j h1 h2 => same_items r r2 hx j h1 h2) _ _ _ _ ⟨.bl _, H, I, rfl, ?_⟩
    rw [show (!(List.range its.toArray.size).all fun _ => true) = false by simp]
    exact q
  · obtain ⟨its, r, pl, hz⟩ := I.tuple ha
    obtain ⟨its2, r2, pl2, hz2⟩ := I.tuple hb
    have l1 := r.length
    have l2 := r2.length
    have hsz : its.toArray.size = its2.toArray.size := by rw [List.size_toArray, List.size_toArray]; omega
    refine SeqAt.RcNeAt.tuples (e := fun _ => true) pl pl2 (by omega) (fun j h1 h2 => same_items r r2 hx j h1 h2) _ _ _ _ ⟨.bl _, H, I, rfl, ?_⟩
    rw [hsz]
    simp only [beq_self_eq_true, Bool.and_true]
    rw [show (!(List.range (min its2.toArray.size its2.toArray.size)).all fun _ => true) = false by simp]
    exact q
end
theorem w_repL {H : Hp} {Q : VK} {l : Addr} {k : Int} {xs : List V} (h : H l = some (.lst xs)) (k0 : 0 ≤ k) (k9 : k ≤ 1000) (hl : xs.length * k.toNat ≤ 1000) (q : ∀ p H2, H p = none → Same H H2 → H2 p = some (.lst (List.replicate k.toNat xs).flatten) → Q (.ref p) H2) : rRep (.ref l) (.int k) H Q :=
  ⟨l, k, xs, rfl, rfl, h, by omega, by omega, Nat.le_trans hl (by decide), fun p hp => q p _ hp (Same.new hp) upd_same⟩
end L2.My

/-! W24: tuples whose object is told (no dict of its own): t.index(x); steps over what reads as a tuple. -/
namespace L2.My
open PySem PySem.Spec PyProof.Rows
/-- a tuple without a dict of its own -/
def FzT (H : Hp) (a : Addr) (xs : List V) : Prop := ∃ ob : Obj, ob.dict = none ∧ H a = some (.frz ob (.tup xs))
theorem FzT.same {H H' : Hp} {a : Addr} {xs : List V} (h : FzT H a xs) (s : Same H H') : FzT H' a xs := by
  obtain ⟨ob, d, e⟩ := h
  exact ⟨ob, d, s _ _ e⟩
theorem FzT.kpt {H H' : Hp} {a : Addr} {xs : List V} (h : FzT H a xs) (s : Kpt H H') : FzT H' a xs := by
  obtain ⟨ob, d, e⟩ := h
  exact ⟨ob, d, s _ _ (by intro xs z; cases z) (by intro xs z; cases z) e⟩
theorem FzT.sq {K : PySem.W.Frag} {H : Hp} {a : Addr} {xs : List V} (h : FzT H a xs) : SqT K H a xs := by
  obtain ⟨ob, d, e⟩ := h
  exact .inl (.inr ⟨ob, e⟩)
section
variable {X : Cx}
def rTupOfF (K : PySem.W.Frag) : List V → Hp → VK → Prop := fun vs H Q => ∃ p ys, vs = [.ref p] ∧ SqL K H p ys ∧ ∀ l H', H l = none → Same H H' → FzT H' l ys → Q (.ref l) H'
theorem cn_tupleF : CallR X (.type "tuple") (rTupOfF X.K) := by
  intro pins s σ H xs us Q I r h
  obtain ⟨p, ys, rfl, hq, q⟩ := h
  obtain ⟨u, rfl, rx⟩ := vals1 r
  cases rx
  obtain ⟨its, r', pl, hz⟩ := I.list hq
  have hlen := r'.length
  refine call_tuple_list pl.isList (fun h' kp => ?_) (by simp only [List.size_toArray] <;> omega)
  have I1 : Inv X pins σ H { s with heap := h' } := I.kept (t' := s.toks) kp
  have I2 : Inv X pins σ (upd H h'.objs.size (.frz { cls := .type "tuple", data := .seq its.toArray } (.tup ys))) { s with heap := h'.push { cls := .type "tuple", data := .seq its.toArray } } :=
    I1.laid (t' := s.toks) (fun b o e => Heap.get?_push_of_some _ e) (Nat.le_refl _) ⟨Heap.get?_push_size _ rfl, hz, its, r', IsTup.new _ _⟩
  have hn := I1.hok.fresh (Nat.le_refl _)
  exact ⟨.ref h'.objs.size, _, I2, rfl, q _ _ hn (Same.new hn) ⟨_, rfl, upd_same⟩⟩
variable {o e : Expr} {es : List Expr} {to : TE} {t : TA} {name : Str} {apos cpos : Pos} {id : String} {r : V → List V → Hp → VK → Prop}
def TMp (x : V) (H : Hp) (N : Prop) : Prop := ∃ a xs, x = .ref a ∧ FzT H a xs ∧ N
def tTM (r : V → List V → Hp → VK → Prop) (to : TE) (t : TA) : TE := fun σ H Q => to σ H fun x H1 => TMp x H1 (t σ H1 fun xs H2 => r x xs H2 Q)
theorem w_tm {σ : L2.St} {H : Hp} {Q : VK} (q : to σ H fun x H1 => TMp x H1 (t σ H1 fun xs H2 => r x xs H2 Q)) : tTM r to t σ H Q := q
theorem k_tm {a : Addr} {xs : List V} {H : Hp} {N : Prop} (h : FzT H a xs) (q : N) : TMp (.ref a) H N := ⟨a, xs, rfl, h, q⟩
theorem pe_tm (pa : PlainAttrs "tuple") (slot : Slot "tuple" name id) (hty : typeOf (.builtin id) = pure (.type "method_descriptor")) (hm : MtR X id r) (ho : PE X o to) (ha : PA X (e :: es) t)
    (hbase : attributeBase o name X.env (eval o X.env) = eval o X.env := by rfl)
    (hfew : ((backTo cpos (starEach (e :: es) X.env)).all (fun x => !x.1) && (backToKw cpos (keywordEach [] X.env)).all (fun x => x.1.isSome)
      && decide ((e :: es).length + ([] : List Keyword).length + (if ([] : List Keyword).isEmpty then 0 else 1) < 30)) = true := by rfl)
    (hline : (apos.endLine == cpos.line) = true := by rfl) (hs : starEach (e :: es) X.env = (false, eval e X.env) :: starEach es X.env := by rfl) (hplain : (backTo cpos (starEach es X.env)).any (·.1) = false := by rfl) :
    PE X (.Call (.Attribute o name apos) (e :: es) [] cpos) (tTM r to t) := by
  refine ⟨fun pins s σ H Q I h => ?_⟩
  refine wpAny_Call_method_late hbase hfew hline rfl (thn (ho.run pins s σ H _ I h) fun v s1 ⟨x, H1, I1, r1, q0⟩ => ?_)
  obtain ⟨a, xs, ex, ⟨ob, hd, hf⟩, q1⟩ := q0
  subst ex
  cases (show v = Value.ref a from r1)
  obtain ⟨hg, hz, its, rv, ⟨o', ho', hc', _⟩⟩ := I1.hok a _ hf
  have h1 : s1.TypeIs (.ref a) "tuple" := ⟨o', ho', hc'⟩
  have h2 : ∀ b, Value.ref a = .ref b → ∃ ob, s1.heap.get? b = some ob ∧ ob.dict = none := fun b eb => by
    cases eb
    exact ⟨ob, hg, hd⟩
  refine ⟨"tuple", id, pa, slot, hty, h1, h2, ?_⟩
  have hA := ha.run cpos pins s1 σ H1 _ I1 q1
  rw [hs] at hA ⊢
  refine Calls.callWith_builtin (by show (false || (backTo cpos (starEach es X.env)).any (·.1)) = false; rw [hplain] <;> rfl) (Calls.evalArgs_plain ?_)
  exact thn hA fun us s2 ⟨vs, H2, I2, r2, q2⟩ => hm pins s2 σ H2 (.ref a) vs (.ref a) us Q I2 rfl r2 q2
end
/-! steps over SqT -/
section
variable {K : PySem.W.Frag} {σ : L2.St} {H : Hp} {Q : VK} {a b : Addr} {xs ys : List V} {te : TE} {ws : List Nat} {g : TG} {tt : TT} {tb : TS}
theorem w_ixS {i : Int} {v : V} (h : SqT K H a xs) (e : atI xs i = some v) (q : Q v H) : rIx K (.ref a) (.int i) H Q := .inr (.inl ⟨a, xs, i, v, rfl, rfl, h, e, q⟩)
theorem k_forS {nx bk ct : L2.St → Hp → Prop} {rt : VK} (Pv : Nat → L2.St → Hp → Prop) (h : SqT K H a xs) (h0 : Pv 0 σ H) (hl : ∀ i σ H, Pv i σ H → SqT K H a xs)
    (hs : ∀ i x σ H, xs[i]? = some x → Pv i σ H → g x σ H fun σ2 H2 => tb ⟨Pv (i + 1), rt, nx, Pv (i + 1)⟩ σ2 H2) (hd : ∀ σ H, Pv xs.length σ H → nx σ H) : ForT K g tb ⟨nx, rt, bk, ct⟩ σ (.ref a) H :=
  ⟨a, rfl, ⟨_, h⟩, for_tup (xs := xs) Pv h0 (fun i σ H _ q => hl i σ H q) hs hd⟩
/-- a slice that is not the whole -/
theorem k_slTS {lo hi : Option Int} (h : SqT K H a xs) (n : ¬ (HT.sIx xs.length 0 lo = 0 ∧ HT.sIx xs.length xs.length hi = xs.length)) (q : ∀ p H2, H p = none → Same H H2 → H2 p = some (.tup (cutV xs lo hi)) → Q (.ref p) H2) : SlP (rSlA K) (.ref a) lo hi H Q :=
  ⟨a, xs, rfl, h, fun z => absurd z n, fun _ p hp => q p _ hp (Same.new hp) upd_same⟩
theorem k_lcZS (Pv : Nat → Addr → Hp → Prop) (ha : SqT K H a xs) (hb : SqT K H b ys) (e : xs.length = ys.length) (h0 : ∀ D, H D = none → Pv 0 D (upd H D (.lst []))) (hl : ∀ i D H', Pv i D H' → SqT K H' a xs ∧ SqT K H' b ys)
    (hs : ∀ i x y D H T H', xs[i]? = some x → ys[i]? = some y → Pv i D H → H T = none → Same H H' → H' T = some (.tup [x, y]) → g (.ref T) (wipe σ ws) H' fun σ2 H2 => wipe σ2 ws = wipe σ ws ∧ tt σ2 H2 fun b H3 =>
      if b = true then te σ2 H3 fun z H4 => ∃ acc, H4 D = some (.lst acc) ∧ acc.length < sizeLine ∧ Pv (i + 1) D (upd H4 D (.lst (acc ++ [z]))) else Pv (i + 1) D H3) (hd : ∀ D H, Pv xs.length D H → Q (.ref D) H) : CompZT K g tt te ws σ [.ref a, .ref b] H Q := by
  refine ⟨a, b, xs, ys, rfl, .inr ⟨ha, hb, fun D hD => ⟨fun i m H => Pv i D H ∧ m + i = xs.length, ⟨xs.length, h0 D hD, rfl⟩, fun i m H ⟨q, em⟩ => ?_⟩⟩⟩
  obtain ⟨l1, l2⟩ := hl i D H q
  rcases Nat.lt_or_ge i xs.length with h | h
  · right
    have ex : xs[i]? = some xs[i] := List.getElem?_eq_getElem h
    have ey : ys[i]? = some (ys[i]'(by omega)) := List.getElem?_eq_getElem (by omega)
    refine ⟨⟨xs, ys, _, _, l1, l2, ex, ey⟩, Pv (i + 1) D, fun H' q' => ⟨m - 1, by omega, q', by omega⟩, ?_⟩
    rintro x H' ⟨T, x', y', rfl, hT, rfl, h1, h2⟩
    exact hs i x' y' D H T _ (h1 xs l1) (h2 ys l2) q hT (Same.new hT) upd_same
  · left
    obtain rfl : i = xs.length := by omega
    exact ⟨⟨xs, ys, l1, l2, .inl (Nat.le_refl _)⟩, hd D H q⟩
end
end L2.My

/-! W26: for over enumerate of a tuple. -/
namespace L2.My
open PySem PySem.Spec PyProof.Rows
/-- enumerate(v): two new cells -/
theorem enum_new1 {v : Value} {o : Obj} {Hh : Heap → Prop} (B : Begins v o Hh) : Meets (Builtin.«enumerate.__new__» ⟨[.type "enumerate", v], []⟩) (fun _ R s => Hh s.heap ∧
    R (.ok (.ret (.ref (s.heap.push o).objs.size))) { s with heap := (s.heap.push o).push { cls := .type "enumerate", data := .fields #[.none, .bool false, .ref s.heap.objs.size, rawInt 0, .none, .none] } }) := .of_wp fun prog w A R s h => by
  obtain ⟨hp, g, d, tk, os⟩ := s
  obtain ⟨h0, h⟩ := h
  have su := sub_enumerate
  have it1 : ∀ {A' : Around} {E : Value → Shared → Prop} {Q : Value → Shared → Prop}, Q (.ref hp.objs.size) ⟨hp.push o, g, d, tk, os⟩ → wpAny (model prog w) A' (pyIter v) Q E ⟨hp, g, d, tk, os⟩ := fun z => B.iter prog w _ _ ⟨hp, g, d, tk, os⟩ _ h0 z
  wp_walk using it1
  refine wpAny_stack_any (fun st => wpAny_pure ?_)
  split
  · rename_i c _ _ _ _ _
    cases (c == Value.type "enumerate") <;> (wp_walk using it1; exact ⟨_, rfl, h⟩)
  · wp_walk using it1; exact ⟨_, rfl, h⟩
section
variable {prog : Program} {w : World} {A : Around} {E : Value → Shared → Prop} {s : Shared}
theorem enum_begin1 {v : Value} {o : Obj} {Hh : Heap → Prop} {Q : Value → Shared → Prop} (B : Begins v o Hh) (h1 : Hh s.heap)
    (h : ∀ h', IsEnum h' (s.heap.objs.size + 1) s.heap.objs.size 0 .none → h'.get? s.heap.objs.size = some o → (∀ b o, s.heap.get? b = some o → h'.get? b = some o) → Q (.ref (s.heap.objs.size + 1)) { s with heap := h' }) : wpAny (model prog w) A (call (.type "enumerate") [v]) Q E s := by
  refine callType_new F.called_enumerate (by decide) (F.typeCall_enumerate_1 _) (F.newCall_enumerate_1 _) (fun obj => F.args_object_init_2 obj _) F.entry_enumerate_new (enum_new1 B) ⟨h1, ?_⟩
  have sz : (s.heap.push o).objs.size = s.heap.objs.size + 1 := Heap.size_push ..
  show _ ∧ _
  have q1 := Heap.get?_push_size (s.heap.push o) (o := { cls := .type "enumerate", data := .fields #[.none, .bool false, .ref s.heap.objs.size, rawInt 0, .none, .none] }) rfl
  rw [sz] at q1 ⊢
  exact ⟨⟨_, q1, rfl⟩, h _ q1 (Heap.get?_push_of_some _ (Heap.get?_push_size _ B.free)) fun b o x => Heap.get?_push_of_some _ (Heap.get?_push_of_some _ x)⟩
end
/-- the tuple at a, each item in a new pair -/
def IteT (K : PySem.W.Frag) (a : Addr) : It :=
  ⟨fun i H => ∃ (xs : List V) (x : V), SqT K H a xs ∧ xs[i]? = some x, fun i H v H' => ∃ T x, v = .ref T ∧ H T = none ∧ H' = upd H T (.tup [.int (i : Nat), x]) ∧ ∀ xs, SqT K H a xs → xs[i]? = some x, fun i H => ∃ xs : List V, SqT K H a xs ∧ xs.length = i⟩
theorem turn_enumT {P : Program} {w : World} {K : PySem.W.Frag} {elts : List Expr} {kk : Nat} {tpos : Pos} (a e it : Addr) (n1 : a ≠ it) (n2 : e ≠ a) (hne : e ≠ it) :
    Turn P w K (.Tuple elts kk tpos) (IteT K a) [e, it] e (fun i h => (∃ old, IsEnum h e it ((i : Nat) : Int) old) ∧ h.IsTupleIter it a i) where
  mem := by simp
  obj := fun i h st b hb => by
    obtain ⟨⟨old, he⟩, ⟨o, ho, hc, hd⟩⟩ := st
    rcases List.mem_cons.mp hb with z | z
    · exact z ▸ ⟨_, he, fun v q => nomatch q⟩
    · exact List.mem_singleton.mp z ▸ ⟨o, ho, fun v q => by rw [hd] at q; cases q⟩
  keep := fun i h h' st k => ⟨st.1.imp fun _ he => k e (by simp) _ he, st.2.at fun o q => k it (by simp) o q⟩
  item := by
    rintro X rfl rfl rfl hc i pins s σ H E I hf ⟨⟨old, he⟩, hit⟩ ⟨xs, x, hq, hx⟩
    obtain ⟨its, rv, p, hz⟩ := I.tuple hq
    obtain ⟨u, hu, ru⟩ := rv.get hx
    have l1 : e < s.heap.objs.size := Heap.lt_size he
    have l2 : it < s.heap.objs.size := by obtain ⟨_, q, _⟩ := hit; exact Heap.lt_size q
    have li : i < its.toArray.size := by rw [List.size_toArray]; exact (List.getElem?_eq_some_iff.mp hu).1
    refine wpAny_pyNext_enum_itemD (Draws.tuple (show X.A.in1.handled = none from I.ok.hd hc) it a n1 its.toArray) he ⟨hit, p⟩ li hne (by simp [hne, n2]) fun x' h' tk hP ho st' hT hsz hk => ?_
    obtain rfl : x' = u := Option.some.inj (hP.symm.trans (by simpa using hu))
    refine ⟨_, rfl, wpAny_letOwnedTupleGo_enum (s := { s with heap := h', toks := tk + 1 }) ho fun h2 he2 sb => ?_⟩
    have f2 : h2.get? s.heap.objs.size = some { cls := .type "tuple", data := .seq #[.int i tk, x'] } := (sb.2 _ (Nat.ne_of_gt l1)).trans hT
    have nw : ObjOk X.prog X.w (upd H s.heap.objs.size (.tup [.int (i : Nat), x])) h2 s.heap.objs.size (.tup [.int (i : Nat), x]) := ⟨by show 2 ≤ sizeLine; decide, [.int i tk, x'], .cons ⟨_, rfl⟩ (.cons ru .nil), ⟨_, f2, rfl, _, rfl⟩⟩
    have I1 : Inv X pins σ (upd H s.heap.objs.size (.tup [.int (i : Nat), x])) { s with heap := h2, toks := tk + 1 } :=
      I.turnedNew (ch := [e, it]) (fun b ob hb q => (sb.2 b (fun z => hb (z ▸ List.mem_cons_self ..))).trans (hk b ob (fun z => hb (z ▸ List.mem_cons_self ..)) (fun z => hb (z ▸ List.mem_cons_of_mem _ (List.mem_singleton.mpr rfl))) q)) hf (Nat.le_refl _) nw
    refine ⟨.ref s.heap.objs.size, _, I1, rfl, ⟨_, x, rfl, I.hok.fresh (Nat.le_refl _), rfl, fun ys hy => I.tuple_inj hy hq ▸ hx⟩, ⟨⟨x', ?_⟩, st'.1.at fun o q => (sb.2 it (Ne.symm hne)).trans q⟩, fun b hb => ?_⟩
    · rw [show ((i + 1 : Nat) : Int) = (i : Int) + 1 from rfl]; exact he2
    · have lb : b < s.heap.objs.size := by
        rcases List.mem_cons.mp hb with z | z
        · exact z ▸ l1
        · exact List.mem_singleton.mp z ▸ l2
      exact (upd_ne (Nat.ne_of_lt lb)).trans (hf b hb).1
  done := by
    rintro X rfl rfl rfl hc i pins s σ H E I hf ⟨⟨old, he⟩, hit⟩ ⟨xs, hq, hx⟩
    obtain ⟨its, rv, p, hz⟩ := I.tuple hq
    obtain ⟨f0, f1, f2, f3, f4, f5⟩ := hf it (by simp)
    have li : i = its.toArray.size := by rw [List.size_toArray, ← rv.length]; exact hx.symm
    subst li
    exact wpAny_pyNext_enum_endD (Draws.tuple (show X.A.in1.handled = none from I.ok.hd hc) it a n1 its.toArray) he ⟨hit, p⟩ fun h' eb => ⟨rfl, I.turned (t' := s.toks) (fun b o hb q => eb b o hb q) f0 f1 f3 f4 f5⟩
  self := fun A i s Q E st h => let ⟨⟨_, he⟩, _⟩ := st; wpAny_pyIter_enum he h
def iEnumT (K : PySem.W.Frag) (ta : TA) : TI := fun σ H R => ta σ H fun vs H1 => ∃ a xs, vs = [.ref a] ∧ SqT K H1 a xs ∧ R (IteT K a) H1
theorem pi_enumT {X : Cx} {e : Expr} {ta : TA} {p pos tpos : Pos} {elts : List Expr} {kk : Nat} (hg : Gl X "enumerate") (hm : X.mg "enumerate" = none) (ha : PA X [e] ta) (hs : starEach [e] X.env = [(false, eval e X.env)] := by rfl) :
    PI X (.Tuple elts kk tpos) (.Call (.Name "enumerate" p) [e] [] pos) (iEnumT X.K ta) := ⟨fun pins s σ H R I h => by
  refine Call_ (ld_blt I hg hm boot_enumerate (PyProof.Rows.callWith_type1 (thn (ha.run pos pins s σ H _ I h) fun us s1 ⟨vs, H1, I1, r1, a, xs, ex, hq, q⟩ => ?_) hs rfl))
  subst ex
  obtain ⟨u, rfl, r⟩ := vals1 r1
  cases r
  obtain ⟨its, rv, p', hz⟩ := I1.tuple hq
  have la : a < s1.heap.objs.size := by obtain ⟨o, ho, _⟩ := id p'; exact Heap.lt_size ho
  refine enum_begin1 (begins_tuple a its.toArray) p' fun h' he hit hk => wpAny_pyIter_enum he ⟨s1.heap.objs.size + 1, [s1.heap.objs.size + 1, s1.heap.objs.size], _, _, H1, rfl, I1.kept (t' := s1.toks) hk, turn_enumT a (s1.heap.objs.size + 1) s1.heap.objs.size (Nat.ne_of_lt la) (Nat.ne_of_gt (Nat.lt_succ_of_lt la)) (Nat.succ_ne_self _), ⟨⟨.none, he⟩, ⟨_, hit, rfl, rfl⟩⟩, fun b hb => ?_, q⟩
  have hle : s1.heap.objs.size ≤ b := by
    rcases List.mem_cons.mp hb with z | z
    · exact z ▸ Nat.le_add_right _ _
    · exact List.mem_singleton.mp z ▸ Nat.le_refl _
  exact I1.fpOk hle (I1.hok.fresh hle)⟩
section
variable {K : PySem.W.Frag} {σ : L2.St} {H : Hp} {g : TG} {tb : TS} {D : Ends} {a : Addr} {xs : List V} {ta : TA}
def ForEnT (K : PySem.W.Frag) (g : TG) (tb : TS) (D : Ends) (σ : L2.St) (vs : List V) (H : Hp) : Prop := tFor (iEnumT K fun _ H Q => Q vs H) g tb D σ H
theorem w_forEnT (q : ta σ H fun vs H1 => ForEnT K g tb D σ vs H1) : tFor (iEnumT K ta) g tb D σ H := q
theorem k_forEnT {nx bk ct : L2.St → Hp → Prop} {rt : VK} (Pv : Nat → L2.St → Hp → Prop) (hx : SqT K H a xs) (h0 : Pv 0 σ H) (hl : ∀ i σ H, Pv i σ H → SqT K H a xs)
    (hs : ∀ i x σ H T H', xs[i]? = some x → Pv i σ H → H T = none → Same H H' → H' T = some (.tup [.int (i : Nat), x]) → g (.ref T) σ H' fun σ2 H2 => tb ⟨Pv (i + 1), rt, nx, Pv (i + 1)⟩ σ2 H2) (hd : ∀ σ H, Pv xs.length σ H → nx σ H) :
    ForEnT K g tb ⟨nx, rt, bk, ct⟩ σ [.ref a] H := by
  refine ⟨a, xs, rfl, hx, fun i m σ H => Pv i σ H ∧ m + i = xs.length, ⟨xs.length, h0, rfl⟩, fun i m σ H ⟨q, em⟩ => ?_⟩
  have l1 := hl i σ H q
  rcases Nat.lt_or_ge i xs.length with h | h
  · refine .inr ⟨⟨xs, _, l1, List.getElem?_eq_getElem h⟩, Pv (i + 1), fun σ' H' q' => ⟨m - 1, by omega, q', by omega⟩, ?_⟩
    rintro x H' ⟨T, x', rfl, hT, rfl, h1⟩
    exact hs i x' σ H T _ (h1 xs l1) q hT (Same.new hT) upd_same
  · obtain rfl : i = xs.length := by omega
    exact .inl ⟨⟨xs, l1, rfl⟩, hd σ H q⟩
/-- over a list or a tuple -/
theorem pi_enumS {X : Cx} {e : Expr} {p pos tpos : Pos} {elts : List Expr} {kk : Nat} (hg : Gl X "enumerate") (hm : X.mg "enumerate" = none) (ha : PA X [e] ta) (hs : starEach [e] X.env = [(false, eval e X.env)] := by rfl) :
    PI X (.Tuple elts kk tpos) (.Call (.Name "enumerate" p) [e] [] pos) (iOr (iEnum X.K ta) (iEnumT X.K ta)) := PI.or (pi_enum hg hm ha hs) (pi_enumT hg hm ha hs)
end
/-! a module's integer -/
theorem int_of {x : Option (Option Value)} {k : Int} (h : isIntV x k = true) : ∃ u, x = some (some u) ∧ RelV (.int k) u := by
  unfold isIntV at h
  split at h
  · obtain rfl := of_decide_eq_true h
    exact ⟨_, rfl, _, rfl⟩
  · cases h
end L2.My

/-! W27: a module's nested tuples; math.lcm of wide integers. -/
namespace L2.My
open PySem PySem.Spec PyProof.Rows
def KD (K : PySem.W.Frag) : Nat → V → PyData → Prop
  | _ + 1, v, .int j => v = .int j
  | n + 1, v, .tuple ds => ∃ a xs, v = .ref a ∧ (∀ H, SqT K H a xs) ∧ xs.length = ds.length ∧ ∀ p ∈ xs.zip ds, KD K n p.1 p.2
  | _, _, _ => False
theorem kd_all {K : PySem.W.Frag} {n : Nat} (ih : ∀ u d, kdB K n u d = true → ∃ v, RelV v u ∧ KD K n v d) : ∀ {us : List Value} {ds : List PyData}, us.length = ds.length → ((us.zip ds).all fun p => kdB K n p.1 p.2) = true → ∃ xs, Vals xs us ∧ xs.length = ds.length ∧ ∀ p ∈ xs.zip ds, KD K n p.1 p.2
  | [], [], _, _ => ⟨[], .nil, rfl, fun _ h => by cases h⟩
  | u :: us, d :: ds, h, ha => by
    rw [List.zip_cons_cons, List.all_cons, Bool.and_eq_true] at ha
    obtain ⟨v, rv, kv⟩ := ih u d ha.1
    obtain ⟨xs, r, l, k⟩ := kd_all ih (by simpa using h) ha.2
    refine ⟨v :: xs, .cons rv r, by simp [l], fun p hp => ?_⟩
    rw [List.zip_cons_cons] at hp
    rcases List.mem_cons.mp hp with rfl | hp
    · exact kv
    · exact k p hp
  | [], _ :: _, h, _ => by simp at h
  | _ :: _, [], h, _ => by simp at h
theorem kd_of {K : PySem.W.Frag} : ∀ {n : Nat} {u : Value} {d : PyData}, kdB K n u d = true → ∃ v, RelV v u ∧ KD K n v d := by
  intro n
  induction n with
  | zero => intro u d h; simp [kdB] at h
  | succ n ih =>
    intro u d h
    unfold kdB at h
    split at h
    · rename_i i _ j he
      cases he
      obtain rfl := of_decide_eq_true h
      exact ⟨.int i, ⟨_, rfl⟩, rfl⟩
    · rename_i n' a ds he
      cases he
      split at h
      · rename_i t dd its m sl hl
        simp only [Bool.and_eq_true, decide_eq_true_eq] at h
        obtain ⟨⟨⟨ht, hz⟩, hlen⟩, hall⟩ := h
        subst ht
        obtain ⟨xs, r, l, k⟩ := kd_all (fun u d => ih) hlen hall
        exact ⟨.ref a, rfl, a, xs, rfl, fun H => .inr ⟨_, its, m, hl, rfl, rfl, Nat.le_trans (Nat.le_of_ble_eq_true hz) (by decide), r⟩, l, k⟩
      · cases h
    · cases h
theorem kd_ref {K : PySem.W.Frag} {n : Nat} {a : Addr} {d : PyData} (h : kdB K n (.ref a) d = true) : KD K n (.ref a) d := by
  obtain ⟨v, rv, k⟩ := kd_of h
  cases v with
  | ref b =>
    have e : Value.ref a = Value.ref b := rv
    cases e
    exact k
  | int i => obtain ⟨t, e⟩ := (show ∃ t, Value.ref a = Value.int i t from rv); cases e
  | _ => cases n with
    | zero => exact k.elim
    | succ n => cases d <;> first | (obtain ⟨_, _, e, _⟩ := k; cases e) | exact k.elim | (cases (show _ = _ from k))
theorem KD.int {K : PySem.W.Frag} {n : Nat} {v : V} {j : Int} (h : KD K (n + 1) v (.int j)) : v = .int j := h
theorem KD.tup {K : PySem.W.Frag} {n : Nat} {v : V} {ds : List PyData} (h : KD K (n + 1) v (.tuple ds)) : ∃ a xs, v = .ref a ∧ (∀ H, SqT K H a xs) ∧ xs.length = ds.length ∧ ∀ (i : Nat) d, ds[i]? = some d → ∃ x, xs[i]? = some x ∧ KD K n x d := by
  obtain ⟨a, xs, rfl, hs, l, k⟩ := h
  refine ⟨a, xs, rfl, hs, l, fun i d hd => ?_⟩
  have hi : i < ds.length := (List.getElem?_eq_some_iff.mp hd).1
  have hx : xs[i]? = some xs[i] := List.getElem?_eq_getElem (by omega)
  refine ⟨xs[i], hx, k (xs[i], d) (List.mem_of_getElem? (i := i) ?_)⟩
  rw [List.getElem?_zip_eq_some]
  exact ⟨hx, hd⟩
theorem KD.pair {K : PySem.W.Frag} {n : Nat} {v : V} {i j : Int} (h : KD K (n + 2) v (.tuple [.int i, .int j])) : ∃ a, v = .ref a ∧ ∀ H, SqT K H a [.int i, .int j] := by
  obtain ⟨a, xs, rfl, hs, l, k⟩ := h.tup
  obtain ⟨x, hx, kx⟩ := k 0 _ rfl
  obtain ⟨y, hy, ky⟩ := k 1 _ rfl
  match xs, l with
  | [p, q], _ =>
    cases hx
    cases hy
    rw [KD.int kx, KD.int ky] at hs
    exact ⟨a, rfl, hs⟩
/-! math.lcm, wide -/
def rLcmW : List V → Hp → VK → Prop := fun vs H Q => ∃ a b : Int, vs = [.int a, .int b] ∧ Bw 6000 a ∧ Bw 6000 b ∧ Q (.int ((a.natAbs.lcm b.natAbs : Nat) : Int)) H
theorem cr_lcmW {X : Cx} : CallR X (.builtin "math.lcm") rLcmW := by
  intro pins s σ H vs us Q I r h
  obtain ⟨a, b, rfl, ha, hb, q⟩ := h
  obtain ⟨u1, u2, rfl, ra, rb⟩ := vals2 r
  obtain ⟨t, rfl⟩ := ra
  obtain ⟨u, rfl⟩ := rb
  unfold Bw at ha hb
  have l1 : a.natAbs.log2 < 6000 := PySem.Flt.log2_lt_of (by decide) ha
  have l2 : b.natAbs.log2 < 6000 := PySem.Flt.log2_lt_of (by decide) hb
  have m1 : (max 1 a.natAbs).log2 < 6000 := by
    rcases Nat.le_total 1 a.natAbs with h | h
    · rw [Nat.max_eq_right h]; exact l1
    · rw [Nat.max_eq_left h]; decide
  have m2 : (max a.natAbs b.natAbs).log2 < 6000 := by
    rcases Nat.le_total a.natAbs b.natAbs with h | h
    · rw [Nat.max_eq_right h]; exact l2
    · rw [Nat.max_eq_left h]; exact l1
  have e : (Nat.lcm 1 a.natAbs).lcm b.natAbs = a.natAbs.lcm b.natAbs := by rw [PySem.W.mc_lcm_one]
  have hz : (((Nat.lcm 1 a.natAbs).lcm b.natAbs : Nat) : Int).natAbs.log2 < bitsLine := by
    rw [e, Int.natAbs_natCast]
    have l : a.natAbs.lcm b.natAbs < 2 ^ 12000 := by
      refine Nat.lt_of_le_of_lt (PySem.W.mc_lcm_le _ _) ?_
      rw [show 12000 = 6000 + 6000 from rfl, Nat.pow_add]
      exact Nat.mul_lt_mul'' ha hb
    exact Nat.lt_of_lt_of_le (PySem.Flt.log2_lt_of (by decide) l) (by decide)
  have g := PySem.W.mg_run_lcm a t b u (by omega) (by omega) hz
  rw [e] at g
  exact call_function_meets PySem.W.MGF.kind_lcm PySem.W.MGF.plain_lcm PySem.W.MGF.entry_lcm (PySem.W.MGF.args_lcm _ _) g.meets ⟨.int _, H, I.tok _, ⟨_, rfl⟩, q⟩
/-- a comprehension within a comprehension -/
theorem blkOk_eq {N N' : List Str} {sc sc' scope : Scope} {own : List (Str × Nat)} (h1 : N = N') (h2 : sc = sc') (h : blkC N' sc' scope own = true) : BlkOk N sc scope own := by
  subst h1 h2
  exact blkOk_by h
theorem pi_tupZ {X : Cx} {K : PySem.W.Frag} {tg l : Expr} {tl : TE} (h : X.K = K) (hl : PE X l tl) : PI X tg l (iTup K tl) := h ▸ pi_tup hl
theorem pi_listZ {X : Cx} {K : PySem.W.Frag} {tg l : Expr} {tl : TE} (h : X.K = K) (hl : PE X l tl) : PI X tg l (iList K tl) := h ▸ pi_list hl
/-! a comprehension over enumerate of a tuple -/
theorem pi_enumTZ {X : Cx} {K : PySem.W.Frag} {e : Expr} {ta : TA} {p pos tpos : Pos} {elts : List Expr} {kk : Nat} (h : X.K = K) (hg : Gl X "enumerate") (hm : X.mg "enumerate" = none) (ha : PA X [e] ta) (hs : starEach [e] X.env = [(false, eval e X.env)] := by rfl) :
    PI X (.Tuple elts kk tpos) (.Call (.Name "enumerate" p) [e] [] pos) (iEnumT K ta) := h ▸ pi_enumT hg hm ha hs
section
variable {K : PySem.W.Frag} {σ : L2.St} {H : Hp} {Q : VK} {a : Addr} {xs : List V} {te : TE} {ws : List Nat} {g : TG} {tt : TT} {ta : TA}
def CompEnT (K : PySem.W.Frag) (g : TG) (tt : TT) (te : TE) (ws : List Nat) (σ : L2.St) (vs : List V) (H : Hp) (Q : VK) : Prop := tLc (iEnumT K fun _ H Q => Q vs H) g tt te ws σ H Q
theorem w_lcEnT (q : ta σ H fun vs H1 => CompEnT K g tt te ws σ vs H1 Q) : tLc (iEnumT K ta) g tt te ws σ H Q := q
theorem k_lcEnT (Pv : Nat → Addr → Hp → Prop) (ha : SqT K H a xs) (h0 : ∀ D, H D = none → Pv 0 D (upd H D (.lst []))) (hl : ∀ i D H', Pv i D H' → SqT K H' a xs)
    (hs : ∀ i x D H T H', xs[i]? = some x → Pv i D H → H T = none → Same H H' → H' T = some (.tup [.int (i : Nat), x]) → g (.ref T) (wipe σ ws) H' fun σ2 H2 => wipe σ2 ws = wipe σ ws ∧ tt σ2 H2 fun b H3 =>
      if b = true then te σ2 H3 fun z H4 => ∃ acc, H4 D = some (.lst acc) ∧ acc.length < sizeLine ∧ Pv (i + 1) D (upd H4 D (.lst (acc ++ [z]))) else Pv (i + 1) D H3) (hd : ∀ D H, Pv xs.length D H → Q (.ref D) H) : CompEnT K g tt te ws σ [.ref a] H Q := by
  refine ⟨a, xs, rfl, ha, fun D hD => ⟨fun i m H => Pv i D H ∧ m + i = xs.length, ⟨xs.length, h0 D hD, rfl⟩, fun i m H ⟨q, em⟩ => ?_⟩⟩
  have l1 := hl i D H q
  rcases Nat.lt_or_ge i xs.length with h | h
  · right
    have ex : xs[i]? = some xs[i] := List.getElem?_eq_getElem h
    refine ⟨⟨xs, _, l1, ex⟩, Pv (i + 1) D, fun H' q' => ⟨m - 1, by omega, q', by omega⟩, ?_⟩
    rintro x H' ⟨T, x', rfl, hT, rfl, h1⟩
    exact hs i x' D H T _ (h1 xs l1) q hT (Same.new hT) upd_same
  · left
    obtain rfl : i = xs.length := by omega
    exact ⟨⟨xs, l1, rfl⟩, hd D H q⟩
end
end L2.My

namespace L2.My
open PySem PySem.Spec PyProof.Rows
/-- an own exception class without own __init__ -/
structure Ex0 (K : PySem.W.Frag) (C : Addr) : Prop where
  q : PySem.W.excIn K C [.type "ValueError", .type "Exception", .type "BaseException", .type "object"] "ValueError.__new__" = true
  k : PySem.W.keepIn K (.ref C) = true
  s : PySem.W.subIn K (.ref C) (.type "BaseException") = some true
  t : PySem.W.typeIn K (.ref C) = some (.type "type")
/-- C(), to be raised -/
theorem pm_h0 {X : Cx} {x : Str} {C : Addr} {p pos : Pos} (T : Ex0 X.K C) (gC : X.mg x = some (.ref C)) (hg : Gl X x := by rfl) (hdb : (x == ("__debug__" : Str)) = false := by decide) :
    PMk X (.Call (.Name x p) [] [] pos) (fun _ H Q => Q (.ref C) none H) := by
  intro pins s σ H Q I h
  refine wpAny_Call_Name_kw (ld_glob I hg gC ?_ hdb)
  refine PySem.W.callWith_K0 (first := []) I.kIn T.k ?_
  obtain ⟨bm, N, nm, qn, bs, hdct, sn, sub, ab, col, dd, k0, k1, k2, k3, k5, mN, hC, hN, hni, T'⟩ := exc_obj I.kIn T.q
  refine wpAny_call_exc_subT PySem.F.excBase_ValueError T' hC hN hni (fun h' e hm => ?_) (Nat.zero_le _)
  exact mk_of I hm (raises_own T.s T.t) h (I.hok.gone hm.new)
theorem w_revL {K : PySem.W.Frag} {te : TE} {σ : L2.St} {H : Hp} {Q : VK} (q : te σ H fun x H1 => ∃ a xs, x = .ref a ∧ SqL K H1 a xs ∧ ∀ p, H1 p = none → Q (.ref p) (upd H1 p (.lst xs.reverse))) : tRevL K te σ H Q := q
theorem kit_no {K : PySem.W.Frag} {S D : Addr} (ic : PySem.W.isClsIn K D = true) (tc : PySem.W.typeIn K (.ref D) = some (.type "type")) (s : PySem.W.mroIn K D (.ref D) = some true) (h : PySem.W.mroIn K S (.ref D) = some false) : PySem.W.kitOne K (.ref S) (.ref D) = some false :=
  kit_ref0 ic tc h (by
    by_cases e : S = D
    · subst e
      rw [s] at h
      cases h
    · simp [e])
end L2.My

local macro_rules | `(tactic| walk_at "side") => `(tactic| first | (exact Or.inl ⟨by omega, by omega⟩) | (exact Or.inr (Or.inl ⟨by omega, by omega⟩)) | (exact ⟨by decide, by decide⟩) | (show (0 : Int) < _; omega) | assumption | (exact ⟨by decide, by decide, by decide⟩))
local macro_rules | `(tactic| walk_at "st") => `(tactic| first | with_reducible exact L2.My.set0 | with_reducible exact L2.My.set1 | with_reducible exact L2.My.set2 | with_reducible exact L2.My.set3 | with_reducible exact L2.My.set4 | with_reducible exact L2.My.set5 | with_reducible exact L2.My.set6 | with_reducible exact L2.My.set7 | with_reducible exact L2.My.set8 | with_reducible exact L2.My.set9 | with_reducible exact L2.My.set10 | with_reducible exact L2.My.set11 | with_reducible exact L2.My.set12 | with_reducible exact L2.My.set13 | with_reducible exact L2.My.set14 | with_reducible exact L2.My.set15 | with_reducible exact L2.My.set16 | with_reducible exact L2.My.set17 | with_reducible exact L2.My.set18 | with_reducible exact L2.My.set19 | with_reducible exact L2.My.set20 | with_reducible exact L2.My.set21 | with_reducible exact L2.My.set22 | with_reducible exact L2.My.set23 | exact L2.My.set0 | exact L2.My.set1 | exact L2.My.set2 | exact L2.My.set3 | exact L2.My.set4 | exact L2.My.set5 | exact L2.My.set6 | exact L2.My.set7 | exact L2.My.set8 | exact L2.My.set9 | exact L2.My.set10 | exact L2.My.set11 | exact L2.My.set12 | exact L2.My.set13 | exact L2.My.set14 | exact L2.My.set15 | exact L2.My.set16 | exact L2.My.set17 | exact L2.My.set18 | exact L2.My.set19 | exact L2.My.set20 | exact L2.My.set21 | exact L2.My.set22 | exact L2.My.set23)
local macro_rules | `(tactic| walk_at "s") => `(tactic| first
  | with_reducible refine L2.My.w_seq ?_ | with_reducible refine L2.My.w_asg ?_ | with_reducible refine L2.My.w_op ?_ | with_reducible refine L2.My.w_ret ?_ | with_reducible refine L2.My.w_if ?_
  | ((with_reducible refine' L2.My.w_var ?hv ?_); (case hv => exact rfl)) | with_reducible refine L2.My.w_c ?_ | with_reducible refine L2.My.w_I0 ?_ | with_reducible refine L2.My.w_U ?_
  | ((with_reducible refine' L2.My.w_name ?hs ?_); (case hs => walk_at "st")) | with_reducible refine L2.My.w_next ?_ | with_reducible refine L2.My.w_drop ?_
  | with_reducible refine L2.My.w_test ?_ | with_reducible refine L2.My.w_B ?_ | with_reducible refine L2.My.w_bl ?_ | with_reducible refine L2.My.w_blV ?_ | with_reducible refine L2.My.w_and ?_ | with_reducible refine L2.My.w_or ?_ | with_reducible refine L2.My.w_not ?_
  | with_reducible refine L2.My.w_andV ?_ | with_reducible refine L2.My.w_orV ?_ | with_reducible refine L2.My.w_notV ?_ | with_reducible refine L2.My.w_un ?_
  | ((with_reducible refine' L2.My.w_T ?hc ?_); (case hc => exact rfl)) | ((with_reducible refine' L2.My.w_F ?hc ?_); (case hc => exact rfl))
  | with_reducible refine L2.My.w_cons ?_ | with_reducible refine L2.My.w_nil ?_ | with_reducible refine L2.My.w_call ?_ | with_reducible refine L2.My.w_cb ?_
  | with_reducible refine L2.My.w_tup ?_ | with_reducible refine L2.My.w_lst ?_ | with_reducible refine L2.My.w_fldE ?_ | with_reducible refine L2.My.w_mkO ?_ | with_reducible refine L2.My.w_int ?_ | with_reducible refine L2.My.w_intB ?_ | with_reducible refine L2.My.w_abs ?_ | with_reducible refine L2.My.w_yes ?_ | with_reducible refine L2.My.w_Tself ?_ | with_reducible refine L2.My.w_Fself ?_ | with_reducible refine L2.My.w_sl ?_ | with_reducible refine L2.My.w_dnew ?_ | with_reducible refine L2.My.w_isB ?_ | with_reducible refine L2.My.w_gsub ?_ | with_reducible refine L2.My.w_poN ?_ | with_reducible refine L2.My.w_poS ?_ | with_reducible refine L2.My.w_exI ?_
  | ((with_reducible refine' L2.My.w_I ?hc ?_); (case hc => walk_at "side"))
  | ((with_reducible refine' L2.My.w_ixL ?hh ?he ?_); (case hh => assumption); (case he => exact rfl)) | ((with_reducible refine' L2.My.w_ixT ?hh ?he ?_); (case hh => assumption); (case he => exact rfl))
  | with_reducible refine L2.My.w_xf ?_ | with_reducible refine L2.My.w_stoE ?_ | with_reducible refine L2.My.w_mkC ?_ | with_reducible refine L2.My.w_meth ?_
  | with_reducible refine L2.My.w_forT ?_ | with_reducible refine L2.My.w_forL ?_ | with_reducible refine L2.My.w_forR ?_ | with_reducible refine L2.My.w_forR2 ?_ | with_reducible refine L2.My.w_forZ ?_ | with_reducible refine L2.My.w_lcL ?_ | with_reducible refine L2.My.w_lcT ?_ | with_reducible refine L2.My.w_lcR ?_
  | with_reducible refine L2.My.w_ifx ?_ | with_reducible refine L2.My.w_truB ?_ | with_reducible refine L2.My.w_truI ?_
  | with_reducible refine L2.My.w_eq rfl ?_ | with_reducible refine L2.My.w_ne rfl ?_)
local macro_rules | `(tactic| walk_at "W") => `(tactic| repeat (walk_at "s"))

-- needs W28
namespace L2.My
open PySem PySem.Spec PyProof.Rows
def top (i : Nat) : Stmt := PySem.Challenge.pw_threetiles_k63_floors_led_up_and_back.main.body.getD i (.Pass ⟨0, 0, 0, 0⟩)
/-- where the classes stand -/
structure Zs where
  K : PySem.W.Frag
  c_FloorError : Addr
  c_BadNumber : Addr
  c_BadPoint : Addr
  c_BadCorner : Addr
  c_Barred : Addr
  c_BadSize : Addr
  c_BadBounds : Addr
  c_BadFloor : Addr
  c_Root : Addr
  c_Floor : Addr
  c_Piece : Addr
  c_VECTORS : Addr
  c_ODD_PRESSES : Addr
  c_EVEN_PRESSES : Addr
  c_BARRING : Addr

/-- what the top has left -/
structure Txt (Z : Zs) (mg : Str → Option Value) : Prop where
  n_isinstance : mg "isinstance" = none
  n_all : mg "all" = none
  n_len : mg "len" = none
  n_tuple : mg "tuple" = none
  n_list : mg "list" = none
  n_range : mg "range" = none
  n_enumerate : mg "enumerate" = none
  n_int : mg "int" = none
  n_abs : mg "abs" = none
  n_bool : mg "bool" = none
  n_ValueError : mg "ValueError" = none
  g_gcd : mg "gcd" = some (.builtin "math.gcd")
  g_lcm : mg "lcm" = some (.builtin "math.lcm")
  g_FloorError : mg "FloorError" = some (.ref Z.c_FloorError)
  g_BadNumber : mg "BadNumber" = some (.ref Z.c_BadNumber)
  g_BadPoint : mg "BadPoint" = some (.ref Z.c_BadPoint)
  g_BadCorner : mg "BadCorner" = some (.ref Z.c_BadCorner)
  g_Barred : mg "Barred" = some (.ref Z.c_Barred)
  g_BadSize : mg "BadSize" = some (.ref Z.c_BadSize)
  g_BadBounds : mg "BadBounds" = some (.ref Z.c_BadBounds)
  g_BadFloor : mg "BadFloor" = some (.ref Z.c_BadFloor)
  g_Root : mg "Root" = some (.ref Z.c_Root)
  g_Floor : mg "Floor" = some (.ref Z.c_Floor)
  g_Piece : mg "Piece" = some (.ref Z.c_Piece)
  g_VECTORS : mg "VECTORS" = some (.ref Z.c_VECTORS)
  d_VECTORS : KD Z.K 8 (.ref Z.c_VECTORS) (.tuple [.tuple [.int 1, .int 0], .tuple [.int 1, .int 1], .tuple [.int 0, .int 1], .tuple [.int (-1), .int 1], .tuple [.int (-1), .int 0], .tuple [.int (-1), .int (-1)], .tuple [.int 0, .int (-1)], .tuple [.int 1, .int (-1)]])
  g_ODD_PRESSES : mg "ODD_PRESSES" = some (.ref Z.c_ODD_PRESSES)
  d_ODD_PRESSES : KD Z.K 8 (.ref Z.c_ODD_PRESSES) (.tuple [.tuple [.int 1, .tuple [.tuple [.int 1, .int 1]]], .tuple [.int 1, .tuple [.tuple [.int 0, .int 1], .tuple [.int 2, .int 1]]], .tuple [.int 1, .tuple [.tuple [.int 0, .int 2], .tuple [.int 3, .int 1]]], .tuple [.int 1, .tuple [.tuple [.int 2, .int 2], .tuple [.int 7, .int 1]]]])
  g_EVEN_PRESSES : mg "EVEN_PRESSES" = some (.ref Z.c_EVEN_PRESSES)
  d_EVEN_PRESSES : KD Z.K 8 (.ref Z.c_EVEN_PRESSES) (.tuple [.tuple [.int 1, .tuple [.tuple [.int 0, .int 1]]], .tuple [.int 2, .tuple [.tuple [.int 1, .int 1], .tuple [.int 7, .int 1]]], .tuple [.int 1, .tuple [.tuple [.int 2, .int 1], .tuple [.int 7, .int 1]]], .tuple [.int 1, .tuple [.tuple [.int 1, .int 1], .tuple [.int 6, .int 1]]]])
  g_BARRING : mg "BARRING" = some (.ref Z.c_BARRING)
  d_BARRING : KD Z.K 8 (.ref Z.c_BARRING) (.tuple [.tuple [.tuple [.int 0, .int 1], .tuple [.int 4, .int 1]], .tuple [.tuple [.int 1, .int 1], .tuple [.int 5, .int 1]], .tuple [.tuple [.int 2, .int 1], .tuple [.int 6, .int 1]], .tuple [.tuple [.int 3, .int 1], .tuple [.int 7, .int 1]], .tuple [.tuple [.int 0, .int 1], .tuple [.int 3, .int 1], .tuple [.int 6, .int 1]], .tuple [.tuple [.int 1, .int 1], .tuple [.int 4, .int 2], .tuple [.int 7, .int 1]], .tuple [.tuple [.int 0, .int 1], .tuple [.int 2, .int 1], .tuple [.int 5, .int 1]], .tuple [.tuple [.int 1, .int 1], .tuple [.int 3, .int 1], .tuple [.int 6, .int 2]], .tuple [.tuple [.int 2, .int 1], .tuple [.int 4, .int 1], .tuple [.int 7, .int 1]], .tuple [.tuple [.int 0, .int 2], .tuple [.int 3, .int 1], .tuple [.int 5, .int 1]], .tuple [.tuple [.int 1, .int 1], .tuple [.int 4, .int 1], .tuple [.int 6, .int 1]], .tuple [.tuple [.int 2, .int 2], .tuple [.int 5, .int 1], .tuple [.int 7, .int 1]]])
  g_MOST_BOUNDS : ∃ u, mg "MOST_BOUNDS" = some u ∧ RelV (.int 400) u
  g_MOST_LED : ∃ u, mg "MOST_LED" = some u ∧ RelV (.int 40) u
  ki : KiT Z.K Z.c_Root
  nf_top : NoAttr Z.K Z.c_Root "top"
  nf_root : NoAttr Z.K Z.c_Root "root"
  nf_bottom : NoAttr Z.K Z.c_Root "bottom"
  ow : OwnB Z.K Z.c_Root
  ra : ∃ g, PySem.W.findIn Z.K (.ref Z.c_Root) "__radd__" = some (some (.ref g))
  rs : ∃ g, PySem.W.findIn Z.K (.ref Z.c_Root) "__rsub__" = some (some (.ref g))
  rm : ∃ g, PySem.W.findIn Z.K (.ref Z.c_Root) "__rmul__" = some (some (.ref g))
  c_Floor : Cls Z.K Z.c_Floor
  kf_Floor : KiT Z.K Z.c_Floor
  nf_Floor_shift : NoAttr Z.K Z.c_Floor "shift"
  nf_Floor__gauge : NoAttr Z.K Z.c_Floor "_gauge"
  c_Piece : Cls Z.K Z.c_Piece
  kf_Piece : KiT Z.K Z.c_Piece
  nf_Piece_bounds : NoAttr Z.K Z.c_Piece "bounds"
  kc_Root_Floor : PySem.W.kitOne Z.K (.ref Z.c_Root) (.ref Z.c_Floor) = some false
  kc_Piece_Floor : PySem.W.kitOne Z.K (.ref Z.c_Piece) (.ref Z.c_Floor) = some false
  x_BadNumber : OexC Z.K Z.c_BadNumber
  xn_BadNumber : PySem.W.findIn Z.K (.ref Z.c_BadNumber) "value" = some none
  xf_BadNumber : XfC Z.K Z.c_BadNumber
  xm_BadNumber : PySem.W.exmOne Z.K (.ref Z.c_BadNumber) (.ref Z.c_BadNumber) = some true
  xi_BadNumber : PySem.W.XiC Z.K Z.c_BadNumber
  x_BadPoint : OexC Z.K Z.c_BadPoint
  xn_BadPoint : PySem.W.findIn Z.K (.ref Z.c_BadPoint) "point" = some none
  xf_BadPoint : XfC Z.K Z.c_BadPoint
  xm_BadPoint : PySem.W.exmOne Z.K (.ref Z.c_BadPoint) (.ref Z.c_BadPoint) = some true
  xi_BadPoint : PySem.W.XiC Z.K Z.c_BadPoint
  x_BadCorner : OexC Z.K Z.c_BadCorner
  xn_BadCorner : PySem.W.findIn Z.K (.ref Z.c_BadCorner) "corner" = some none
  xf_BadCorner : XfC Z.K Z.c_BadCorner
  xm_BadCorner : PySem.W.exmOne Z.K (.ref Z.c_BadCorner) (.ref Z.c_BadCorner) = some true
  xi_BadCorner : PySem.W.XiC Z.K Z.c_BadCorner
  x_Barred : OexC Z.K Z.c_Barred
  xn_Barred : PySem.W.findIn Z.K (.ref Z.c_Barred) "direction" = some none
  xf_Barred : XfC Z.K Z.c_Barred
  xm_Barred : PySem.W.exmOne Z.K (.ref Z.c_Barred) (.ref Z.c_Barred) = some true
  xi_Barred : PySem.W.XiC Z.K Z.c_Barred
  x_BadSize : OexC Z.K Z.c_BadSize
  xn_BadSize : PySem.W.findIn Z.K (.ref Z.c_BadSize) "size" = some none
  xf_BadSize : XfC Z.K Z.c_BadSize
  xm_BadSize : PySem.W.exmOne Z.K (.ref Z.c_BadSize) (.ref Z.c_BadSize) = some true
  xi_BadSize : PySem.W.XiC Z.K Z.c_BadSize
  x_BadBounds : OexC Z.K Z.c_BadBounds
  xn_BadBounds : PySem.W.findIn Z.K (.ref Z.c_BadBounds) "index" = some none
  xf_BadBounds : XfC Z.K Z.c_BadBounds
  xm_BadBounds : PySem.W.exmOne Z.K (.ref Z.c_BadBounds) (.ref Z.c_BadBounds) = some true
  xi_BadBounds : PySem.W.XiC Z.K Z.c_BadBounds
  x_BadFloor : OexC Z.K Z.c_BadFloor
  xn_BadFloor : PySem.W.findIn Z.K (.ref Z.c_BadFloor) "floor" = some none
  xf_BadFloor : XfC Z.K Z.c_BadFloor
  xm_BadFloor : PySem.W.exmOne Z.K (.ref Z.c_BadFloor) (.ref Z.c_BadFloor) = some true
  xi_BadFloor : PySem.W.XiC Z.K Z.c_BadFloor
  xo_BadSize_BadFloor : PySem.W.exmOne Z.K (.ref Z.c_BadSize) (.ref Z.c_BadFloor) = some false
  xo_BadFloor_BadSize : PySem.W.exmOne Z.K (.ref Z.c_BadFloor) (.ref Z.c_BadSize) = some false
  xk_BadSize_FloorError : PySem.W.kitOne Z.K (.ref Z.c_BadSize) (.ref Z.c_FloorError) = some true
  xk_BadSize_ValueError : PySem.W.kitOne Z.K (.ref Z.c_BadSize) (.type "ValueError") = some true
  xk_BadFloor_FloorError : PySem.W.kitOne Z.K (.ref Z.c_BadFloor) (.ref Z.c_FloorError) = some true
  xk_BadFloor_BadSize : PySem.W.kitOne Z.K (.ref Z.c_BadFloor) (.ref Z.c_BadSize) = some false
theorem Txt.c_Root {Z : Zs} {mg : Str → Option Value} (T : Txt Z mg) : Cls Z.K Z.c_Root := T.ki.ty
abbrev ThI (Z : Zs) (H : Hp) (v : V) : Prop := Th Z.c_Root H v
theorem Plain.thI {Z : Zs} {H : Hp} {v : V} (h : Plain H v) : ThI Z H v := h.th
theorem thI_ty {Z : Zs} {mg : Str → Option Value} {H : Hp} {v : V} (h : ThI Z H v) (T : Txt Z mg) : ∃ t, TyX Z.K H v t ∧ PySem.W.kitOne Z.K t (.type "int") = some (isI v || isB v) ∧ PySem.W.kitOne Z.K t (.type "bool") = some (isB v) := by
  obtain ⟨t, a, b, c, _⟩ := h.ty T.ki
  exact ⟨t, a, b, c⟩
theorem thI_same {Z : Zs} {H H' : Hp} {v : V} (h : ThI Z H v) (s : Same H H') : ThI Z H' v := h.same s
variable {P : Program} {w : World} {mg : Str → Option Value} {base : Heap} {Z : Zs}
abbrev s_is_integral : Stmt := top 17
theorem sc_is_integral : FnScope ["thing"] ["thing"] (defScope s_is_integral) := ⟨rfl, rfl, rfl, by decide +kernel, rfl, by decide +kernel, by decide +kernel⟩

def sp_is_integral (Z : Zs) : Sp := fun vs H Q E =>
  ∃ v, vs = [v] ∧ ThI Z H v ∧ Q (.bl (isI v)) H
theorem ok_is_integral (T : Txt Z mg)  (D : AtF Z.K mg "is_integral" "is_integral" s_is_integral ["thing"]) : Has P w Z.K mg base "is_integral" 1 ["thing"] (sp_is_integral Z) := by
  refine D.ok sc_is_integral (fun vs H Q E h => ?_) (fun cdv A outer s H vs Q E hr h => ?_)
  · obtain ⟨v, rfl, _⟩ := h
    rfl
  · refine ⟨_, (pss_one (ps_ret (pe_and (pe_callB call_isi rfl T.n_isinstance (by decide +kernel) (pa_cons (pv 0) (pa_cons (pe_bltn (v := .ty "int") rfl T.n_int (by decide +kernel) rfl) pa_nil))) (pe_one (pe_not (pe_callB call_isi rfl T.n_isinstance (by decide +kernel) (pa_cons (pv 0) (pa_cons (pe_bltn (v := .ty "bool") rfl T.n_bool (by decide +kernel) rfl) pa_nil)))))))), ?_⟩
    try simp only [cxOf]
    obtain ⟨v, rfl, hv, q⟩ := h
    obtain ⟨t, ty, k1, k2⟩ := thI_ty hv T
    walk_at "W"
    refine w_isi ty k1 ?_
    walk_at "W"
    cases e : isI v || isB v
    · walk_at "W"
      have : isI v = false := by cases v <;> simp_all [isI, isB]
      rw [this] at q; exact q
    · walk_at "W"
      refine w_isi ty k2 ?_
      walk_at "W"
      have : (!isB v) = isI v := by cases v <;> simp_all [isI, isB]
      rw [this]; exact q
abbrev s_BadPoint_init : Stmt := inClass (top 5) 0
theorem sc_BadPoint_init : FnScope ["self", "point"] ["self", "point"] (defScope s_BadPoint_init) := ⟨rfl, rfl, rfl, by decide +kernel, rfl, by decide +kernel, by decide +kernel⟩

def sp_BadPoint_init (Z : Zs) : Sp := fun vs H Q E =>
  spX Z.c_BadPoint "point" vs H Q E
theorem ok_BadPoint_init (T : Txt Z mg)  (D : AtX Z.K mg "BadPoint" Z.c_BadPoint "BadPoint.__init__" s_BadPoint_init ["self", "point"]) : HasX P w Z.K mg base "BadPoint" Z.c_BadPoint 1 ["self", "point"] (sp_BadPoint_init Z) := by
  refine D.ok sc_BadPoint_init (fun vs H Q E h => ?_) (fun cdv A outer s H vs Q E hr h => ?_)
  · obtain ⟨a, v, rfl, _⟩ := h
    rfl
  · refine ⟨_, (pss_one (ps_ost (pv 0) (pv 1))), ?_⟩
    try simp only [cxOf]
    obtain ⟨a, v, rfl, ha, q⟩ := h
    exact ⟨_, rfl, _, rfl, a, Z.c_BadPoint, rfl, T.x_BadPoint, T.xn_BadPoint, Or.inl ⟨ha, fun d hd hn => q d hd hn⟩⟩
abbrev s_BadCorner_init : Stmt := inClass (top 6) 0
theorem sc_BadCorner_init : FnScope ["self", "corner"] ["self", "corner"] (defScope s_BadCorner_init) := ⟨rfl, rfl, rfl, by decide +kernel, rfl, by decide +kernel, by decide +kernel⟩

def sp_BadCorner_init (Z : Zs) : Sp := fun vs H Q E =>
  spX Z.c_BadCorner "corner" vs H Q E
theorem ok_BadCorner_init (T : Txt Z mg)  (D : AtX Z.K mg "BadCorner" Z.c_BadCorner "BadCorner.__init__" s_BadCorner_init ["self", "corner"]) : HasX P w Z.K mg base "BadCorner" Z.c_BadCorner 1 ["self", "corner"] (sp_BadCorner_init Z) := by
  refine D.ok sc_BadCorner_init (fun vs H Q E h => ?_) (fun cdv A outer s H vs Q E hr h => ?_)
  · obtain ⟨a, v, rfl, _⟩ := h
    rfl
  · refine ⟨_, (pss_one (ps_ost (pv 0) (pv 1))), ?_⟩
    try simp only [cxOf]
    obtain ⟨a, v, rfl, ha, q⟩ := h
    exact ⟨_, rfl, _, rfl, a, Z.c_BadCorner, rfl, T.x_BadCorner, T.xn_BadCorner, Or.inl ⟨ha, fun d hd hn => q d hd hn⟩⟩
abbrev s_Barred_init : Stmt := inClass (top 7) 0
theorem sc_Barred_init : FnScope ["self", "direction"] ["self", "direction"] (defScope s_Barred_init) := ⟨rfl, rfl, rfl, by decide +kernel, rfl, by decide +kernel, by decide +kernel⟩

def sp_Barred_init (Z : Zs) : Sp := fun vs H Q E =>
  spX Z.c_Barred "direction" vs H Q E
theorem ok_Barred_init (T : Txt Z mg)  (D : AtX Z.K mg "Barred" Z.c_Barred "Barred.__init__" s_Barred_init ["self", "direction"]) : HasX P w Z.K mg base "Barred" Z.c_Barred 1 ["self", "direction"] (sp_Barred_init Z) := by
  refine D.ok sc_Barred_init (fun vs H Q E h => ?_) (fun cdv A outer s H vs Q E hr h => ?_)
  · obtain ⟨a, v, rfl, _⟩ := h
    rfl
  · refine ⟨_, (pss_one (ps_ost (pv 0) (pv 1))), ?_⟩
    try simp only [cxOf]
    obtain ⟨a, v, rfl, ha, q⟩ := h
    exact ⟨_, rfl, _, rfl, a, Z.c_Barred, rfl, T.x_Barred, T.xn_Barred, Or.inl ⟨ha, fun d hd hn => q d hd hn⟩⟩
abbrev s_BadSize_init : Stmt := inClass (top 12) 0
theorem sc_BadSize_init : FnScope ["self", "size"] ["self", "size"] (defScope s_BadSize_init) := ⟨rfl, rfl, rfl, by decide +kernel, rfl, by decide +kernel, by decide +kernel⟩

def sp_BadSize_init (Z : Zs) : Sp := fun vs H Q E =>
  spX Z.c_BadSize "size" vs H Q E
theorem ok_BadSize_init (T : Txt Z mg)  (D : AtX Z.K mg "BadSize" Z.c_BadSize "BadSize.__init__" s_BadSize_init ["self", "size"]) : HasX P w Z.K mg base "BadSize" Z.c_BadSize 1 ["self", "size"] (sp_BadSize_init Z) := by
  refine D.ok sc_BadSize_init (fun vs H Q E h => ?_) (fun cdv A outer s H vs Q E hr h => ?_)
  · obtain ⟨a, v, rfl, _⟩ := h
    rfl
  · refine ⟨_, (pss_one (ps_ost (pv 0) (pv 1))), ?_⟩
    try simp only [cxOf]
    obtain ⟨a, v, rfl, ha, q⟩ := h
    exact ⟨_, rfl, _, rfl, a, Z.c_BadSize, rfl, T.x_BadSize, T.xn_BadSize, Or.inl ⟨ha, fun d hd hn => q d hd hn⟩⟩
abbrev s_BadBounds_init : Stmt := inClass (top 13) 0
theorem sc_BadBounds_init : FnScope ["self", "index"] ["self", "index"] (defScope s_BadBounds_init) := ⟨rfl, rfl, rfl, by decide +kernel, rfl, by decide +kernel, by decide +kernel⟩

def sp_BadBounds_init (Z : Zs) : Sp := fun vs H Q E =>
  spX Z.c_BadBounds "index" vs H Q E
theorem ok_BadBounds_init (T : Txt Z mg)  (D : AtX Z.K mg "BadBounds" Z.c_BadBounds "BadBounds.__init__" s_BadBounds_init ["self", "index"]) : HasX P w Z.K mg base "BadBounds" Z.c_BadBounds 1 ["self", "index"] (sp_BadBounds_init Z) := by
  refine D.ok sc_BadBounds_init (fun vs H Q E h => ?_) (fun cdv A outer s H vs Q E hr h => ?_)
  · obtain ⟨a, v, rfl, _⟩ := h
    rfl
  · refine ⟨_, (pss_one (ps_ost (pv 0) (pv 1))), ?_⟩
    try simp only [cxOf]
    obtain ⟨a, v, rfl, ha, q⟩ := h
    exact ⟨_, rfl, _, rfl, a, Z.c_BadBounds, rfl, T.x_BadBounds, T.xn_BadBounds, Or.inl ⟨ha, fun d hd hn => q d hd hn⟩⟩
abbrev s_BadFloor_init : Stmt := inClass (top 15) 0
theorem sc_BadFloor_init : FnScope ["self", "floor"] ["self", "floor"] (defScope s_BadFloor_init) := ⟨rfl, rfl, rfl, by decide +kernel, rfl, by decide +kernel, by decide +kernel⟩

def sp_BadFloor_init (Z : Zs) : Sp := fun vs H Q E =>
  spX Z.c_BadFloor "floor" vs H Q E
theorem ok_BadFloor_init (T : Txt Z mg)  (D : AtX Z.K mg "BadFloor" Z.c_BadFloor "BadFloor.__init__" s_BadFloor_init ["self", "floor"]) : HasX P w Z.K mg base "BadFloor" Z.c_BadFloor 1 ["self", "floor"] (sp_BadFloor_init Z) := by
  refine D.ok sc_BadFloor_init (fun vs H Q E h => ?_) (fun cdv A outer s H vs Q E hr h => ?_)
  · obtain ⟨a, v, rfl, _⟩ := h
    rfl
  · refine ⟨_, (pss_one (ps_ost (pv 0) (pv 1))), ?_⟩
    try simp only [cxOf]
    obtain ⟨a, v, rfl, ha, q⟩ := h
    exact ⟨_, rfl, _, rfl, a, Z.c_BadFloor, rfl, T.x_BadFloor, T.xn_BadFloor, Or.inl ⟨ha, fun d hd hn => q d hd hn⟩⟩
abbrev s_BadNumber_init : Stmt := inClass (top 4) 0
theorem sc_BadNumber_init : FnScope ["self", "value"] ["self", "value"] (defScope s_BadNumber_init) := ⟨rfl, rfl, rfl, by decide +kernel, rfl, by decide +kernel, by decide +kernel⟩

def sp_BadNumber_init (Z : Zs) : Sp := fun vs H Q E =>
  spX Z.c_BadNumber "value" vs H Q E
theorem ok_BadNumber_init (T : Txt Z mg)  (D : AtX Z.K mg "BadNumber" Z.c_BadNumber "BadNumber.__init__" s_BadNumber_init ["self", "value"]) : HasX P w Z.K mg base "BadNumber" Z.c_BadNumber 1 ["self", "value"] (sp_BadNumber_init Z) := by
  refine D.ok sc_BadNumber_init (fun vs H Q E h => ?_) (fun cdv A outer s H vs Q E hr h => ?_)
  · obtain ⟨a, v, rfl, _⟩ := h
    rfl
  · refine ⟨_, (pss_one (ps_ost (pv 0) (pv 1))), ?_⟩
    try simp only [cxOf]
    obtain ⟨a, v, rfl, ha, q⟩ := h
    exact ⟨_, rfl, _, rfl, a, Z.c_BadNumber, rfl, T.x_BadNumber, T.xn_BadNumber, Or.inl ⟨ha, fun d hd hn => q d hd hn⟩⟩
/-- the common divisor with the sign that the bottom shall lose -/
def sg (t r b : Int) : Int := if b < 0 then -(((t.natAbs.gcd r.natAbs).gcd b.natAbs : Nat) : Int) else (((t.natAbs.gcd r.natAbs).gcd b.natAbs : Nat) : Int)
def lowT (t r b : Int) : Int := t.fdiv (sg t r b)
def lowR (t r b : Int) : Int := r.fdiv (sg t r b)
def lowB (t r b : Int) : Int := b.fdiv (sg t r b)
/-- the first of three that is no integer, or the last one if it is 0 -/
def badOf (a b c : V) : Option V := if isI a = false then some a else if isI b = false then some b else if isI c = false then some c else if c = .int 0 then some (.int 0) else none
theorem isI_int {v : V} (h : isI v = true) : ∃ i, v = .int i := by cases v <;> simp_all [isI]
theorem sg_ne {t r b : Int} (h : b ≠ 0) : sg t r b ≠ 0 := by
  have : 0 < (t.natAbs.gcd r.natAbs).gcd b.natAbs := Nat.gcd_pos_of_pos_right _ (Int.natAbs_pos.mpr h)
  unfold sg
  split <;> omega
theorem sg_le {t r b : Int} (h : b ≠ 0) : (sg t r b).natAbs ≤ b.natAbs := by
  have : (t.natAbs.gcd r.natAbs).gcd b.natAbs ≤ b.natAbs := Nat.le_of_dvd (Int.natAbs_pos.mpr h) (Nat.gcd_dvd_right _ _)
  unfold sg
  split <;> omega
theorem sg_div {t r b x : Int} (h : b ≠ 0) (hb : Bd b) : CDivN9 x (sg t r b) :=
  ⟨sg_ne h, Nat.lt_of_lt_of_le (PySem.Flt.log2_lt_of (by decide) (Nat.lt_of_le_of_lt (sg_le h) hb)) (by decide)⟩
abbrev s_Root_init : Stmt := inClass (top 22) 0
theorem sc_Root_init : FnScope ["self", "top", "root", "bottom", "value", "shared"] ["self", "top", "root", "bottom"] (defScope s_Root_init) := ⟨rfl, rfl, rfl, by decide +kernel, rfl, by decide +kernel, by decide +kernel⟩

def sp_Root_init (Z : Zs) : Sp := fun vs H Q E =>
  ∃ p dx a b c, vs = [.ref p, a, b, c] ∧ H p = some (.ins Z.c_Root dx []) ∧ Th Z.c_Root H a ∧ Th Z.c_Root H b ∧ Th Z.c_Root H c ∧ (∀ k, c = .int k → Bd k) ∧
    (∀ i j k, a = .int i → b = .int j → c = .int k → k ≠ 0 → ∀ H', SameX p H H' → H' p = some (.ins Z.c_Root dx (rootF (lowT i j k) (lowR i j k) (lowB i j k))) → Q .non H') ∧
    (∀ v, badOf a b c = some v → ∀ d H', H d = none → SameX p H H' → H' d = some (.xd [("value", v)]) → E (.ref Z.c_BadNumber) (some d) H')
theorem ok_Root_init (T : Txt Z mg) (h_BadNumber : HasX P w Z.K mg base "BadNumber" Z.c_BadNumber 1 ["self", "value"] (sp_BadNumber_init Z)) (h_is_integral : Has P w Z.K mg base "is_integral" 1 ["thing"] (sp_is_integral Z)) (D : AtC Z.K mg "Root" Z.c_Root "Root.__init__" s_Root_init ["self", "top", "root", "bottom"]) : HasC P w Z.K mg base "Root" Z.c_Root 3 ["self", "top", "root", "bottom"] (sp_Root_init Z) := by
  refine D.ok sc_Root_init (fun vs H Q E h => ?_) (fun cdv A outer s H vs Q E hr h => ?_)
  · obtain ⟨p, dx, a, b, c, rfl, _⟩ := h
    rfl
  · refine ⟨_, (pss_cons (ps_for (passes_of rfl) rfl (pi_tup (pe_tup (pa_cons (pv 1) (pa_cons (pv 2) (pa_cons (pv 3) pa_nil))))) (pg_name (i := 4) sc_Root_init.nd rfl (Or.inl rfl)) (pss_one (ps_if (pt_not (pt_val (pe_h (E := ED E) h_is_integral hr (paW (takes_of rfl rfl rfl rfl)) (pa_cons (pv 4) pa_nil)))) (pss_one (ps_raise rfl (takes_of rfl rfl rfl rfl) (pm_h T.x_BadNumber h_BadNumber hr (pa_cons (pv 4) pa_nil)))) pss_nil)))
      (pss_cons (ps_if (pt_cmpR op_eq (pv 3) pe_int (nomark _)) (pss_one (ps_raise rfl (takes_of rfl rfl rfl rfl) (pm_h T.x_BadNumber h_BadNumber hr (pa_cons (pv 3) pa_nil)))) pss_nil)
      (pss_cons (ps_set (i := 5) sc_Root_init.nd rfl (Or.inl rfl) (pe_callBfun cr_gcd3 rfl T.g_gcd (pa_cons (pv 1) (pa_cons (pv 2) (pa_cons (pv 3) pa_nil)))))
      (pss_cons (ps_if (pt_cmpR op_lt (pv 3) pe_int (nomark _)) (pss_one (ps_set (i := 5) sc_Root_init.nd rfl (Or.inl rfl) (pe_un un_neg (pv 5)))) pss_nil)
      (pss_cons (ps_fld (pv 0) (pe_op op_fdivV (pv 1) (pv 5)) rfl)
      (pss_cons (ps_fld (pv 0) (pe_op op_fdivV (pv 2) (pv 5)) rfl)
      (pss_one (ps_fld (pv 0) (pe_op op_fdivV (pv 3) (pv 5)) rfl)))))))), ?_⟩
    try simp only [cxOf]
    obtain ⟨p, dx, a, b, c, rfl, hp, ha, hb, hc, hk, ok, er⟩ := h
    walk_at "W"
    refine k_tup rfl fun p0 H1 hp0 s1 e1 => ?_
    refine k_forT (fun i σ H' => ∃ v, σ = [some (.ref p), some a, some b, some c, v, none] ∧ Same H1 H' ∧ ∀ j x, j < i → [a, b, c][j]? = some x → isI x = true) e1 ⟨none, rfl, Same.refl _, fun j x hj => absurd hj (Nat.not_lt_zero _)⟩ (fun i σ H' ⟨_, _, s2, _⟩ => s2 _ _ e1) ?_ ?_
    · rintro i x σ H' hx ⟨v, rfl, s2, hi⟩
      have s3 := s1.trans s2
      have hxT : Th Z.c_Root H' x := by
        rcases i with _ | _ | _ | i
        · cases hx; exact ha.same s3
        · cases hx; exact hb.same s3
        · cases hx; exact hc.same s3
        · simp at hx
      have bad : isI x = false → badOf a b c = some x := fun e => by
        rcases i with _ | _ | _ | i
        · cases hx; unfold badOf; rw [if_pos e]
        · cases hx; unfold badOf; rw [if_neg (by rw [hi 0 a (by decide) rfl]; simp), if_pos e]
        · cases hx; unfold badOf; rw [if_neg (by rw [hi 0 a (by decide) rfl]; simp), if_neg (by rw [hi 1 b (by decide) rfl]; simp), if_pos e]
        · simp at hx
      walk_at "W"
      refine ⟨x, rfl, hxT, ?_⟩
      walk_at "W"
      cases e : isI x
      · walk_at "W"
        refine k_mkO fun d H2 hd s4 e4 => ?_
        exact er x (bad e) d H2 (s3.free hd) (Same.x (s3.trans s4)) e4
      · walk_at "W"
        refine ⟨_, rfl, s2, fun j y hj hy => ?_⟩
        rcases Nat.lt_or_eq_of_le (Nat.lt_succ_iff.mp hj) with h | h
        · exact hi j y h hy
        · subst h; rw [hx] at hy; cases hy; exact e
    · rintro σ H' ⟨v, rfl, s2, hi⟩
      have s3 := s1.trans s2
      obtain ⟨i, rfl⟩ := isI_int (hi 0 a (by simp) rfl)
      obtain ⟨j, rfl⟩ := isI_int (hi 1 b (by simp) rfl)
      obtain ⟨k, rfl⟩ := isI_int (hi 2 c (by simp) rfl)
      walk_at "W"
      refine w_ite (fun h => ?_) (fun h => ?_)
      · obtain rfl : k = 0 := by injection h
        walk_at "W"
        refine k_mkO fun d H2 hd s4 e4 => ?_
        exact er _ rfl d H2 (s3.free hd) (Same.x (s3.trans s4)) e4
      · have hk0 : k ≠ 0 := fun z => h (by rw [z])
        have hkb := hk k rfl
        walk_at "W"
        refine ⟨i, j, k, rfl, ?_⟩
        walk_at "W"
        have hd : ∀ x, CDivN9 x (sg i j k) := fun x => sg_div hk0 hkb
        refine w_ite (fun hn => ?_) (fun hn => ?_)
        · walk_at "W"
          have eg : sg i j k = -(((i.natAbs.gcd j.natAbs).gcd k.natAbs : Nat) : Int) := if_pos hn
          rw [← eg]
          refine w_I (hd i) ?_
          walk_at "W"
          refine w_sto (s3 _ _ hp) T.c_Root T.nf_top rfl fun H3 s5 e5 => ?_
          rw [put1] at e5
          walk_at "W"
          refine w_I (hd j) ?_
          walk_at "W"
          refine w_sto e5 T.c_Root T.nf_root rfl fun H4 s6 e6 => ?_
          rw [put2] at e6
          walk_at "W"
          refine w_I (hd k) ?_
          walk_at "W"
          refine w_sto e6 T.c_Root T.nf_bottom rfl fun H5 s7 e7 => ?_
          rw [put3] at e7
          exact ok i j k rfl rfl rfl hk0 H5 ((Same.x s3).trans (s5.trans (s6.trans s7))) e7
        · walk_at "W"
          have eg : sg i j k = (((i.natAbs.gcd j.natAbs).gcd k.natAbs : Nat) : Int) := if_neg hn
          rw [← eg]
          refine w_I (hd i) ?_
          walk_at "W"
          refine w_sto (s3 _ _ hp) T.c_Root T.nf_top rfl fun H3 s5 e5 => ?_
          rw [put1] at e5
          walk_at "W"
          refine w_I (hd j) ?_
          walk_at "W"
          refine w_sto e5 T.c_Root T.nf_root rfl fun H4 s6 e6 => ?_
          rw [put2] at e6
          walk_at "W"
          refine w_I (hd k) ?_
          walk_at "W"
          refine w_sto e6 T.c_Root T.nf_bottom rfl fun H5 s7 e7 => ?_
          rw [put3] at e7
          exact ok i j k rfl rfl rfl hk0 H5 ((Same.x s3).trans (s5.trans (s6.trans s7))) e7
/-- what == says of a number and a thing -/
def eqRt (H : Hp) (t r b : Int) : V → Bool
  | .int n => decide (r = 0) && (decide (b = 1) && decide (t = n))
  | .ref a => match H a with
    | some (.ins _ _ fs) => decide (fs = rootF t r b)
    | _ => false
  | _ => false
abbrev s_Root_eq : Stmt := inClass (top 22) 1
theorem sc_Root_eq : FnScope ["self", "other"] ["self", "other"] (defScope s_Root_eq) := ⟨rfl, rfl, rfl, by decide +kernel, rfl, by decide +kernel, by decide +kernel⟩

def sp_Root_eq (Z : Zs) : Sp := fun vs H Q E =>
  ∃ v o t r b, vs = [v, o] ∧ RootAt Z.c_Root H v t r b ∧ Th Z.c_Root H o ∧ Q (.bl (eqRt H t r b o)) H
theorem ok_Root_eq (T : Txt Z mg) (h_is_integral : Has P w Z.K mg base "is_integral" 1 ["thing"] (sp_is_integral Z)) (D : AtM Z.K Z.c_Root "__eq__" "Root.__eq__" s_Root_eq ["self", "other"]) : HasM P w Z.K mg base Z.c_Root "__eq__" 2 ["self", "other"] (sp_Root_eq Z) := by
  refine D.ok sc_Root_eq (fun vs H Q E h => ?_) (fun cdv A outer s H vs Q E hr h => ?_)
  · obtain ⟨v, o, t, r, b, rfl, _⟩ := h
    rfl
  · refine ⟨_, (pss_cons (ps_if (pt_val (pe_callB call_isi rfl T.n_isinstance (by decide +kernel) (pa_cons (pv 1) (pa_cons (pe_glob (v := .ref Z.c_Root) rfl T.g_Root rfl) pa_nil)))) (pss_one (ps_ret (pe_and (pe_cmpR op_eq (pe_fld (pv 0) rfl) (pe_fld (pv 1) rfl) (nomark _)) (pe_and (pe_cmpR op_eq (pe_fld (pv 0) rfl) (pe_fld (pv 1) rfl) (nomark _)) (pe_one (pe_cmpR op_eq (pe_fld (pv 0) rfl) (pe_fld (pv 1) rfl) (nomark _))))))) pss_nil)
      (pss_one (ps_ret (pe_and (pe_h (E := ED E) h_is_integral hr (paW (takes_of rfl rfl rfl rfl)) (pa_cons (pv 1) pa_nil)) (pe_and (pe_cmpR op_eq (pe_fld (pv 0) rfl) pe_int (nomark _)) (pe_and (pe_cmpR op_eq (pe_fld (pv 0) rfl) pe_int (nomark _)) (pe_one (pe_cmpR op_eq (pe_fld (pv 0) rfl) (pv 1) (nomark _))))))))), ?_⟩
    try simp only [cxOf]
    obtain ⟨v, o, t, r, b, rfl, ⟨a, dx, rfl, ha⟩, ho, q⟩ := h
    obtain ⟨ty, hty, k1, k2, k3, _⟩ := ho.ty T.ki
    walk_at "W"
    refine w_isiC hty k3 ?_
    walk_at "W"
    cases ho with
    | root a' dx' t' r' b' e =>
      have ic : isC Z.c_Root H (.ref a') = true := by
        show (match H a' with | some (.ins C _ _) => decide (C = Z.c_Root) | _ => false) = true
        rw [e]
        exact decide_eq_true rfl
      have er : eqRt H t r b (.ref a') = (decide (t = t') && (decide (r = r') && decide (b = b'))) := by
        show (match H a' with | some (.ins _ _ fs) => decide (fs = rootF t r b) | _ => false) = _
        rw [e]
        simp only [rf_eq, Bool.decide_and]
        rw [decide_eq_decide.mpr (eq_comm (a := t') (b := t)), decide_eq_decide.mpr (eq_comm (a := r') (b := r)), decide_eq_decide.mpr (eq_comm (a := b') (b := b))]
      rw [ic]
      rw [er] at q
      walk_at "W"
      refine w_fld ha T.c_Root T.nf_top (rf_top _ _ _) ?_
      walk_at "W"
      refine w_fld e T.c_Root T.nf_top (rf_top _ _ _) ?_
      walk_at "W"
      rw [decide_eq_decide.mpr (show V.int t = V.int t' ↔ t = t' by simp)]
      cases h1 : decide (t = t')
      · walk_at "W"
        rw [h1] at q
        exact q
      walk_at "W"
      refine w_fld ha T.c_Root T.nf_root (rf_root _ _ _) ?_
      walk_at "W"
      refine w_fld e T.c_Root T.nf_root (rf_root _ _ _) ?_
      walk_at "W"
      rw [decide_eq_decide.mpr (show V.int r = V.int r' ↔ r = r' by simp)]
      cases h2 : decide (r = r')
      · walk_at "W"
        rw [h1, h2] at q
        exact q
      walk_at "W"
      refine w_fld ha T.c_Root T.nf_bottom (rf_bottom _ _ _) ?_
      walk_at "W"
      refine w_fld e T.c_Root T.nf_bottom (rf_bottom _ _ _) ?_
      walk_at "W"
      rw [decide_eq_decide.mpr (show V.int b = V.int b' ↔ b = b' by simp)]
      rw [h1, h2] at q
      exact q
    | int n =>
      walk_at "W"
      refine ⟨_, rfl, .int n, ?_⟩
      walk_at "W"
      refine w_fld ha T.c_Root T.nf_root (rf_root _ _ _) ?_
      walk_at "W"
      have q' : Q (.bl (decide (r = 0) && (decide (b = 1) && decide (t = n)))) H := q
      rw [decide_eq_decide.mpr (show V.int r = V.int 0 ↔ r = 0 by simp)]
      cases h1 : decide (r = 0)
      · walk_at "W"
        rw [h1] at q'
        exact q'
      walk_at "W"
      refine w_fld ha T.c_Root T.nf_bottom (rf_bottom _ _ _) ?_
      walk_at "W"
      rw [decide_eq_decide.mpr (show V.int b = V.int 1 ↔ b = 1 by simp)]
      cases h2 : decide (b = 1)
      · walk_at "W"
        rw [h1, h2] at q'
        exact q'
      walk_at "W"
      refine w_fld ha T.c_Root T.nf_top (rf_top _ _ _) ?_
      walk_at "W"
      rw [decide_eq_decide.mpr (show V.int t = V.int n ↔ t = n by simp)]
      rw [h1, h2] at q'
      exact q'
    | non => walk_at "W"; exact ⟨_, rfl, .non, by walk_at "W"; exact q⟩
    | bl y => walk_at "W"; exact ⟨_, rfl, .bl y, by walk_at "W"; exact q⟩
    | str y => walk_at "W"; exact ⟨_, rfl, .str y, by walk_at "W"; exact q⟩
    | lst a' xs e =>
      have ic : isC Z.c_Root H (.ref a') = false := by unfold isC; simp only [e]
      have er : eqRt H t r b (.ref a') = false := by unfold eqRt; simp only [e]
      rw [ic]; rw [er] at q
      walk_at "W"; exact ⟨_, rfl, .lst a' xs e, by walk_at "W"; exact q⟩
    | tup a' xs e =>
      have ic : isC Z.c_Root H (.ref a') = false := by unfold isC; simp only [e]
      have er : eqRt H t r b (.ref a') = false := by unfold eqRt; simp only [e]
      rw [ic]; rw [er] at q
      walk_at "W"; exact ⟨_, rfl, .tup a' xs e, by walk_at "W"; exact q⟩
    | dK a' xs e =>
      have ic : isC Z.c_Root H (.ref a') = false := by unfold isC; simp only [e]
      have er : eqRt H t r b (.ref a') = false := by unfold eqRt; simp only [e]
      rw [ic]; rw [er] at q
      walk_at "W"; exact ⟨_, rfl, .dK a' xs e, by walk_at "W"; exact q⟩
/-- Root(a, b, c) of any things, from its __init__'s promise -/
theorem k_mkRoot {a b c : V} {H : Hp} {Q : VK} {E : XK} (ha : Th Z.c_Root H a) (hb : Th Z.c_Root H b) (hc : Th Z.c_Root H c) (hk : ∀ k, c = .int k → Bd k)
    (ok : ∀ i j k, a = .int i → b = .int j → c = .int k → k ≠ 0 → ∀ v H', Same H H' → RootAt Z.c_Root H' v (lowT i j k) (lowR i j k) (lowB i j k) → Q v H')
    (er : ∀ v, badOf a b c = some v → ∀ d H', H d = none → Same H H' → H' d = some (.xd [("value", v)]) → E (.ref Z.c_BadNumber) (some d) H') : MkC Z.c_Root (sp_Root_init Z) E [a, b, c] H Q := by
  intro x dx nx ndx nex
  have s0 : Same H (upd (upd H dx (.own x)) x (.ins Z.c_Root dx [])) := fun b o e => by
    rw [upd_ne (ne_of_none e nx), upd_ne (ne_of_none e ndx)]; exact e
  have sx : ∀ H', SameX x (upd (upd H dx (.own x)) x (.ins Z.c_Root dx [])) H' → Same H H' := fun H' s b o e => s b o (ne_of_none e nx) (s0 b o e)
  refine ⟨x, dx, a, b, c, rfl, upd_same, ha.same s0, hb.same s0, hc.same s0, hk, fun i j k e1 e2 e3 n H' s e => ⟨rfl, ok i j k e1 e2 e3 n _ H' (sx H' s) ⟨x, dx, rfl, e⟩⟩, fun v e d H' hd s ed => er v e d H' ?_ (sx H' s) ed⟩
  cases q : H d with
  | none => rfl
  | some o => rw [s0 d o q] at hd; cases hd
/-- .. of three ints, the last one not 0 -/
theorem k_mkRootI {i j k : Int} {H : Hp} {Q : VK} {E : XK} (n : k ≠ 0) (hk : Bd k)
    (ok : ∀ v H', Same H H' → RootAt Z.c_Root H' v (lowT i j k) (lowR i j k) (lowB i j k) → Q v H') : MkC Z.c_Root (sp_Root_init Z) E [.int i, .int j, .int k] H Q :=
  k_mkRoot (.int i) (.int j) (.int k) (fun k' e => by injection e with e; rw [← e]; exact hk) (fun i' j' k' e1 e2 e3 _ => by injection e1 with e1; injection e2 with e2; injection e3 with e3; rw [← e1, ← e2, ← e3]; exact ok)
    (fun v e => by
      exfalso
      unfold badOf at e
      rw [if_neg (by simp [isI]), if_neg (by simp [isI]), if_neg (by simp [isI]), if_neg (by intro z; injection z with z; exact n z)] at e
      cases e)
abbrev s_Root_neg : Stmt := inClass (top 22) 8
theorem sc_Root_neg : FnScope ["self"] ["self"] (defScope s_Root_neg) := ⟨rfl, rfl, rfl, by decide +kernel, rfl, by decide +kernel, by decide +kernel⟩

def sp_Root_neg (Z : Zs) : Sp := fun vs H Q E =>
  ∃ v t r b, vs = [v] ∧ RootAt Z.c_Root H v t r b ∧ b ≠ 0 ∧ Bd b ∧ ∀ v' H', Same H H' → RootAt Z.c_Root H' v' (lowT (-t) (-r) b) (lowR (-t) (-r) b) (lowB (-t) (-r) b) → Q v' H'
theorem ok_Root_neg (T : Txt Z mg) (h_Root : HasC P w Z.K mg base "Root" Z.c_Root 3 ["self", "top", "root", "bottom"] (sp_Root_init Z)) (D : AtM Z.K Z.c_Root "__neg__" "Root.__neg__" s_Root_neg ["self"]) : HasM P w Z.K mg base Z.c_Root "__neg__" 5 ["self"] (sp_Root_neg Z) := by
  refine D.ok sc_Root_neg (fun vs H Q E h => ?_) (fun cdv A outer s H vs Q E hr h => ?_)
  · obtain ⟨v, t, r, b, rfl, _⟩ := h
    rfl
  · refine ⟨_, (pss_one (ps_ret (pe_hc (E := ED E) h_Root hr (paW (takes_of rfl rfl rfl rfl)) (pa_cons (pe_un un_neg (pe_fld (pv 0) rfl)) (pa_cons (pe_un un_neg (pe_fld (pv 0) rfl)) (pa_cons (pe_fld (pv 0) rfl) pa_nil)))))), ?_⟩
    try simp only [cxOf]
    obtain ⟨v, t, r, b, rfl, ⟨a, dx, rfl, ha⟩, hb, hk, q⟩ := h
    walk_at "W"
    refine w_fld ha T.c_Root T.nf_top (rf_top _ _ _) ?_
    walk_at "W"
    refine w_fld ha T.c_Root T.nf_root (rf_root _ _ _) ?_
    walk_at "W"
    refine w_fld ha T.c_Root T.nf_bottom (rf_bottom _ _ _) ?_
    walk_at "W"
    exact k_mkRootI hb hk q
local macro_rules | `(tactic| walk_at "bw") => `(tactic| first | assumption | exact L2.My.Bw.two | exact L2.My.Bw.zero | exact L2.My.Bw.one | ((refine' L2.My.Bw.mul ?hx ?hy); (case hx => walk_at "bw"); (case hy => walk_at "bw")) | ((refine' L2.My.Bw.add ?hx ?hy); (case hx => walk_at "bw"); (case hy => walk_at "bw")) | ((refine' L2.My.Bw.sub ?hx ?hy); (case hx => walk_at "bw"); (case hy => walk_at "bw")) | ((refine' L2.My.Bw.neg ?hx); (case hx => walk_at "bw")))
local macro_rules | `(tactic| walk_at "mul") => `(tactic| ((refine' L2.My.w_I (L2.My.bwm (m := ?m) (n := ?n) ?hx ?hy ?hm) ?_); (case hx => walk_at "bw"); (case hy => walk_at "bw"); (case hm => decide)))
/-- what two numbers make -/
structure F3 where
  t : Int → Int → Int → Int → Int → Int → Int
  r : Int → Int → Int → Int → Int → Int → Int
  b : Int → Int → Int → Int → Int → Int → Int
def plus : F3 := ⟨fun t _ b t' _ b' => t * b' + t' * b, fun _ r b _ r' b' => r * b' + r' * b, fun _ _ b _ _ b' => b * b'⟩
def minus : F3 := ⟨fun t _ b t' _ b' => t * b' - t' * b, fun _ r b _ r' b' => r * b' - r' * b, fun _ _ b _ _ b' => b * b'⟩
def times : F3 := ⟨fun t r _ t' r' _ => t * t' + 2 * r * r', fun t r _ t' r' _ => t * r' + r * t', fun _ _ b _ _ b' => b * b'⟩
/-- other minus one -/
def back (F : F3) : F3 := ⟨fun t r b t' r' b' => F.t t' r' b' t r b, fun t r b t' r' b' => F.r t' r' b' t r b, fun t r b t' r' b' => F.b t' r' b' t r b⟩
/-- three parts that are not too great -/
def B3 (t r b : Int) : Prop := Bw 1000 t ∧ Bw 1000 r ∧ Bw 1000 b
def T3 (H : Hp) (p : Addr) (t r b : Int) : Prop := H p = some (.tup [.int t, .int r, .int b])
def spTwo (F : F3) : Sp := fun vs H Q _ => ∃ p p' t r b t' r' b', vs = [.ref p, .ref p'] ∧ T3 H p t r b ∧ T3 H p' t' r' b' ∧ B3 t r b ∧ B3 t' r' b' ∧
  ∀ u H', H u = none → Same H H' → T3 H' u (F.t t r b t' r' b') (F.r t r b t' r' b') (F.b t r b t' r' b') → Q (.ref u) H'
/-! ### lowest terms -/
theorem fdiv_exact {g x : Int} (h : g ≠ 0) (d : g ∣ x) : x.fdiv g * g = x := by
  obtain ⟨c, rfl⟩ := d
  rw [Int.mul_comm g c, Int.mul_fdiv_cancel _ h]
theorem sg_dvd (t r b : Int) : sg t r b ∣ t ∧ sg t r b ∣ r ∧ sg t r b ∣ b := by
  have h1 : (((t.natAbs.gcd r.natAbs).gcd b.natAbs : Nat) : Int) ∣ t := Int.ofNat_dvd_left.mpr (Nat.dvd_trans (Nat.gcd_dvd_left _ _) (Nat.gcd_dvd_left _ _))
  have h2 : (((t.natAbs.gcd r.natAbs).gcd b.natAbs : Nat) : Int) ∣ r := Int.ofNat_dvd_left.mpr (Nat.dvd_trans (Nat.gcd_dvd_left _ _) (Nat.gcd_dvd_right _ _))
  have h3 : (((t.natAbs.gcd r.natAbs).gcd b.natAbs : Nat) : Int) ∣ b := Int.ofNat_dvd_left.mpr (Nat.gcd_dvd_right _ _)
  unfold sg
  split
  · exact ⟨Int.neg_dvd.mpr h1, Int.neg_dvd.mpr h2, Int.neg_dvd.mpr h3⟩
  · exact ⟨h1, h2, h3⟩
/-- t r b are x y z, each times one number that is not 0, z is above 0 and no number above 1 divides x, y, z -/
structure Low (t r b x y z : Int) : Prop where
  s : ∃ s : Int, s ≠ 0 ∧ t = x * s ∧ r = y * s ∧ b = z * s
  pos : 0 < z
  one : (x.natAbs.gcd y.natAbs).gcd z.natAbs = 1
theorem low_is {t r b : Int} (h : b ≠ 0) : Low t r b (lowT t r b) (lowR t r b) (lowB t r b) := by
  have hs := sg_ne (t := t) (r := r) h
  obtain ⟨d1, d2, d3⟩ := sg_dvd t r b
  have e1 := fdiv_exact hs d1
  have e2 := fdiv_exact hs d2
  have e3 := fdiv_exact hs d3
  refine ⟨⟨_, hs, e1.symm, e2.symm, e3.symm⟩, ?_, ?_⟩
  · have hz : lowB t r b * sg t r b = b := e3
    have hsg : (b < 0 → sg t r b < 0) ∧ (¬ b < 0 → 0 < sg t r b) := by
      have : 0 < (t.natAbs.gcd r.natAbs).gcd b.natAbs := Nat.gcd_pos_of_pos_right _ (Int.natAbs_pos.mpr h)
      unfold sg
      constructor <;> intro hb <;> simp only [hb, if_true, if_false] <;> omega
    rcases Int.lt_trichotomy (lowB t r b) 0 with z | z | z
    · exfalso
      by_cases hb : b < 0
      · have := Int.mul_pos_of_neg_of_neg z (hsg.1 hb); omega
      · have := Int.mul_neg_of_neg_of_pos z (hsg.2 hb); omega
    · rw [z] at hz; omega
    · exact z
  · have hg : 0 < (t.natAbs.gcd r.natAbs).gcd b.natAbs := Nat.gcd_pos_of_pos_right _ (Int.natAbs_pos.mpr h)
    have hn : (sg t r b).natAbs = (t.natAbs.gcd r.natAbs).gcd b.natAbs := by unfold sg; split <;> omega
    have f1 : t.natAbs = (lowT t r b).natAbs * (sg t r b).natAbs := by rw [← Int.natAbs_mul]; exact congrArg _ e1.symm
    have f2 : r.natAbs = (lowR t r b).natAbs * (sg t r b).natAbs := by rw [← Int.natAbs_mul]; exact congrArg _ e2.symm
    have f3 : b.natAbs = (lowB t r b).natAbs * (sg t r b).natAbs := by rw [← Int.natAbs_mul]; exact congrArg _ e3.symm
    have : (((lowT t r b).natAbs.gcd (lowR t r b).natAbs).gcd (lowB t r b).natAbs) * (sg t r b).natAbs = 1 * (sg t r b).natAbs := by
      rw [← Nat.gcd_mul_right, ← Nat.gcd_mul_right, ← f1, ← f2, ← f3, Nat.one_mul, hn]
    exact Nat.eq_of_mul_eq_mul_right (by rw [hn]; exact hg) this
/-- lowest terms are told by the number alone -/
theorem Low.uniq {t r b x y z x' y' z' : Int} (h : Low t r b x y z) (h' : Low t r b x' y' z') : x = x' ∧ y = y' ∧ z = z' := by
  obtain ⟨⟨s, hs, a1, a2, a3⟩, p, o⟩ := h
  obtain ⟨⟨s', hs', b1, b2, b3⟩, p', o'⟩ := h'
  have k : ∀ {x y z s x' y' z' s' : Int}, x * s = x' * s' → y * s = y' * s' → z * s = z' * s' → ((x.natAbs.gcd y.natAbs).gcd z.natAbs) * s.natAbs = ((x'.natAbs.gcd y'.natAbs).gcd z'.natAbs) * s'.natAbs := fun {x y z s x' y' z' s'} h1 h2 h3 => by
    rw [← Nat.gcd_mul_right, ← Nat.gcd_mul_right, ← Nat.gcd_mul_right, ← Nat.gcd_mul_right, ← Int.natAbs_mul, ← Int.natAbs_mul, ← Int.natAbs_mul, ← Int.natAbs_mul, ← Int.natAbs_mul, ← Int.natAbs_mul, h1, h2, h3]
  have e := k (a1.symm.trans b1) (a2.symm.trans b2) (a3.symm.trans b3)
  rw [o, o', Nat.one_mul, Nat.one_mul] at e
  have ez : z * s = z' * s' := a3.symm.trans b3
  have es : s = s' := by
    rcases Int.natAbs_eq_natAbs_iff.mp e with q | q
    · exact q
    · exfalso
      rw [q, Int.mul_neg] at ez
      have : (z + z') * s' = 0 := by rw [Int.add_mul, ← ez]; omega
      rcases Int.mul_eq_zero.mp this with w | w
      · omega
      · exact hs' w
  subst es
  exact ⟨Int.eq_of_mul_eq_mul_right hs (a1.symm.trans b1), Int.eq_of_mul_eq_mul_right hs (a2.symm.trans b2), Int.eq_of_mul_eq_mul_right hs ez⟩
theorem Low.eqs {t r b x y z : Int} (h : Low t r b x y z) (hb : b ≠ 0) : x = lowT t r b ∧ y = lowR t r b ∧ z = lowB t r b := h.uniq (low_is hb)
theorem Low.zle {t r b x y z : Int} (h : Low t r b x y z) : z.natAbs ≤ b.natAbs := by
  obtain ⟨⟨s, hs, _, _, e⟩, _, _⟩ := h
  rw [e, Int.natAbs_mul]
  exact Nat.le_mul_of_pos_right _ (Int.natAbs_pos.mpr hs)
theorem Low.self {t r b x y z : Int} (h : Low t r b x y z) : Low x y z x y z := ⟨⟨1, by decide, by simp, by simp, by simp⟩, h.pos, h.one⟩
theorem Low.scale {t r b x y z : Int} (h : Low t r b x y z) {f : Int} (hf : f ≠ 0) : Low (t * f) (r * f) (b * f) x y z := by
  obtain ⟨⟨s, hs, a1, a2, a3⟩, p, o⟩ := h
  exact ⟨⟨s * f, Int.mul_ne_zero hs hf, by rw [a1, Int.mul_assoc], by rw [a2, Int.mul_assoc], by rw [a3, Int.mul_assoc]⟩, p, o⟩
theorem Low.turned {t r b x y z : Int} (h : Low t r b x y z) : Low t (-r) b x (-y) z := by
  obtain ⟨⟨s, hs, a1, a2, a3⟩, p, o⟩ := h
  exact ⟨⟨s, hs, a1, by rw [a2, Int.neg_mul], a3⟩, p, by rw [Int.natAbs_neg]; exact o⟩
theorem Low.neg {t r b x y z : Int} (h : Low t r b x y z) : Low (-t) (-r) b (-x) (-y) z := by
  obtain ⟨⟨s, hs, a1, a2, a3⟩, p, o⟩ := h
  exact ⟨⟨s, hs, by rw [a1, Int.neg_mul], by rw [a2, Int.neg_mul], a3⟩, p, by rw [Int.natAbs_neg, Int.natAbs_neg]; exact o⟩
theorem Low.far {t r b x y z x' y' z' : Int} (h : Low t r b x y z) (h' : Low (t + b) r b x' y' z') (hb : b ≠ 0) : ¬ (x' = x ∧ y' = y ∧ z' = z) := by
  rintro ⟨rfl, rfl, rfl⟩
  obtain ⟨⟨s, hs, a1, a2, a3⟩, p, o⟩ := h
  obtain ⟨⟨s', hs', b1, b2, b3⟩, _, _⟩ := h'
  have : s = s' := Int.eq_of_mul_eq_mul_left (by omega) (a3.symm.trans b3)
  subst this
  rw [← a1] at b1
  omega
theorem Low.aside {t r b x y z x' y' z' : Int} (h : Low t r b x y z) (h' : Low t (r + 1) b x' y' z') : ¬ (x' = x ∧ y' = y ∧ z' = z) := by
  rintro ⟨rfl, rfl, rfl⟩
  obtain ⟨⟨s, hs, a1, a2, a3⟩, p, o⟩ := h
  obtain ⟨⟨s', hs', b1, b2, b3⟩, _, _⟩ := h'
  have : s = s' := Int.eq_of_mul_eq_mul_left (by omega) (a3.symm.trans b3)
  subst this
  rw [← a2] at b2
  omega
theorem Low.whole {t r b x y z : Int} (h : Low t r b x y z) (w : Int) : (y = 0 ∧ z = 1 ∧ x = w) ↔ (r = 0 ∧ t = w * b) := by
  obtain ⟨⟨s, hs, a1, a2, a3⟩, p, o⟩ := h
  constructor
  · rintro ⟨rfl, rfl, rfl⟩
    rw [Int.one_mul] at a3
    rw [a3]
    exact ⟨by rw [a2, Int.zero_mul], a1⟩
  · rintro ⟨hr, ht⟩
    have hy : y = 0 := by
      rcases Int.mul_eq_zero.mp (a2.symm.trans hr) with q | q
      · exact q
      · exact absurd q hs
    have hx : x = w * z := by
      rw [a1, a3, ← Int.mul_assoc] at ht
      exact Int.eq_of_mul_eq_mul_right hs ht
    subst hy
    rw [hx, Int.natAbs_zero, Nat.gcd_zero_right, Int.natAbs_mul, Nat.gcd_mul_left_left] at o
    have : z = 1 := by omega
    subst this
    exact ⟨rfl, rfl, by rw [hx, Int.mul_one]⟩
theorem eqRt_root {H : Hp} {t r b t' r' b' : Int} {v : V} {c : Addr} (h : RootAt c H v t' r' b') : eqRt H t r b v = decide (t' = t ∧ r' = r ∧ b' = b) := by
  obtain ⟨a, dx, rfl, e⟩ := h
  unfold eqRt
  simp only [e, rf_eq]
theorem RootAt.th {c : Addr} {H : Hp} {v : V} {t r b : Int} (h : RootAt c H v t r b) : Th c H v := by
  obtain ⟨a, dx, rfl, e⟩ := h
  exact .root a dx t r b e
theorem RootAt.sx {c st sc : Addr} {H H' : Hp} {v : V} {t r b : Int} (h : RootAt c H v t r b) (hs : StA H st sc) (s : SameX st H H') : RootAt c H' v t r b := by
  obtain ⟨a, dx, rfl, e⟩ := h
  exact ⟨a, dx, rfl, s _ _ (hs.ne e (by intro xs z; cases z)) e⟩
theorem k_eqC {mg : Str → Option Value} (T : Txt Z mg) {H : Hp} {Q : VK} {E : XK} {x y : V} {t r b : Int} (hx : RootAt Z.c_Root H x t r b) (hy : Th Z.c_Root H y) (q : Q (.bl (eqRt H t r b y)) H) : rOwnC Z.K Z.c_Root (sp_Root_eq Z) E x y H Q := by
  obtain ⟨a, dx, rfl, e⟩ := hx
  obtain ⟨ty, hty, _, _, _, nf⟩ := hy.ty T.ki
  exact ⟨a, dx, _, ty, rfl, e, hty, nf, _, _, t, r, b, rfl, ⟨a, dx, rfl, e⟩, hy, q⟩
theorem k_eqR {mg : Str → Option Value} (T : Txt Z mg) {H : Hp} {Q : VK} {E : XK} {x y : V} {t r b : Int} (hy : RootAt Z.c_Root H y t r b) (hx : (∃ i, x = .int i) ∨ ∃ b, x = .bl b) (q : Q (.bl (eqRt H t r b x)) H) : rOwnR Z.K Z.c_Root (sp_Root_eq Z) E x y H Q := by
  obtain ⟨a, dx, rfl, e⟩ := hy
  rcases hx with ⟨i, rfl⟩ | ⟨c, rfl⟩
  · exact ⟨a, dx, _, rfl, e, .inl ⟨⟨i, rfl⟩, T.ki.s1⟩, _, _, t, r, b, rfl, ⟨a, dx, rfl, e⟩, .int i, q⟩
  · exact ⟨a, dx, _, rfl, e, .inr ⟨⟨c, rfl⟩, T.ki.s2⟩, _, _, t, r, b, rfl, ⟨a, dx, rfl, e⟩, .bl c, q⟩
/-- a number, as a Root or as an int -/
def NumAt (c : Addr) (H : Hp) (v : V) (t r b : Int) : Prop := RootAt c H v t r b ∨ ∃ i, v = .int i ∧ t = i ∧ r = 0 ∧ b = 1
/-- its parts are not too great, the bottom is not 0 -/
structure Sm (t r b : Int) : Prop where
  ht : Bw 1000 t
  hr : Bw 1000 r
  hb : Bw 1000 b
  lw : Low t r b t r b
theorem Sm.hn {t r b : Int} (h : Sm t r b) : b ≠ 0 := by have := h.lw.pos; omega
theorem bw_div {n : Nat} {x y s : Int} (h : Bw n x) (e : x = y * s) (hs : s ≠ 0) : Bw n y := by
  unfold Bw at *
  rw [e, Int.natAbs_mul] at h
  exact Nat.lt_of_le_of_lt (Nat.le_mul_of_pos_right _ (Int.natAbs_pos.mpr hs)) h
theorem Sm.low {t r b : Int} (hb : b ≠ 0) (bt : Bw 1000 t) (br : Bw 1000 r) (bb : Bw 1000 b) : Sm (lowT t r b) (lowR t r b) (lowB t r b) := by
  have l := low_is (t := t) (r := r) hb
  obtain ⟨s, hs, e1, e2, e3⟩ := l.s
  exact ⟨bw_div bt e1 hs, bw_div br e2 hs, bw_div bb e3 hs, l.self⟩
theorem low_congr {t r b t' r' b' s : Int} (hb : b' ≠ 0) (hs : s ≠ 0) (e1 : t = t' * s) (e2 : r = r' * s) (e3 : b = b' * s) : lowT t r b = lowT t' r' b' ∧ lowR t r b = lowR t' r' b' ∧ lowB t r b = lowB t' r' b' := by
  have l := (low_is (t := t') (r := r') hb).scale hs
  rw [← e1, ← e2, ← e3] at l
  obtain ⟨a, b, c⟩ := l.eqs (by rw [e3]; exact Int.mul_ne_zero hb hs)
  exact ⟨a.symm, b.symm, c.symm⟩
/-- a Root that is (t + r * root) / b in lowest terms -/
def LowAt (c : Addr) (H : Hp) (v : V) (t r b : Int) : Prop := RootAt c H v (lowT t r b) (lowR t r b) (lowB t r b)
theorem LowAt.congr {c : Addr} {H : Hp} {v : V} {t r b t' r' b' s : Int} (h : LowAt c H v t r b) (hb : b' ≠ 0) (hs : s ≠ 0) (e1 : t = t' * s) (e2 : r = r' * s) (e3 : b = b' * s) : LowAt c H v t' r' b' := by
  obtain ⟨a, b, c⟩ := low_congr hb hs e1 e2 e3
  unfold LowAt at *
  rw [← a, ← b, ← c]
  exact h
theorem LowAt.congr' {c : Addr} {H : Hp} {v : V} {t r b t' r' b' s : Int} (h : LowAt c H v t r b) (hb : b ≠ 0) (hs : s ≠ 0) (e1 : t' = t * s) (e2 : r' = r * s) (e3 : b' = b * s) : LowAt c H v t' r' b' := by
  obtain ⟨a, b, c⟩ := low_congr hb hs e1 e2 e3
  unfold LowAt at *
  rw [a, b, c]
  exact h
def spBin (c : Addr) (F : F3) : Sp := fun vs H Q _ => ∃ v o t r b t' r' b', vs = [v, o] ∧ RootAt c H v t r b ∧ Sm t r b ∧ NumAt c H o t' r' b' ∧ Sm t' r' b' ∧
  ∀ v' H', Same H H' → LowAt c H' v' (F.t t r b t' r' b') (F.r t r b t' r' b') (F.b t r b t' r' b') → Q v' H'
def isN (c : Addr) (H : Hp) (v : V) : Bool := isC c H v || isI v
theorem RootAt.isC {c : Addr} {H : Hp} {v : V} {t r b : Int} (h : RootAt c H v t r b) : isC c H v = true := by
  obtain ⟨a, dx, rfl, e⟩ := h
  show (match H a with | some (.ins C _ _) => decide (C = c) | _ => false) = true
  rw [e]
  exact decide_eq_true rfl
theorem NumAt.th {c : Addr} {H : Hp} {v : V} {t r b : Int} (h : NumAt c H v t r b) : Th c H v := by
  rcases h with ⟨a, dx, rfl, e⟩ | ⟨i, rfl, _⟩
  · exact .root a dx t r b e
  · exact .int i
theorem NumAt.isN {c : Addr} {H : Hp} {v : V} {t r b : Int} (h : NumAt c H v t r b) : isN c H v = true := by
  unfold L2.My.isN
  rcases h with h | ⟨i, rfl, _⟩
  · rw [h.isC]; rfl
  · rfl
theorem NumAt.same {c : Addr} {H H' : Hp} {v : V} {t r b : Int} (h : NumAt c H v t r b) (s : Same H H') : NumAt c H' v t r b := h.imp (·.same s) id
theorem low1 (i : Int) : lowT i 0 1 = i ∧ lowR i 0 1 = 0 ∧ lowB i 0 1 = 1 := by
  have e : sg i 0 1 = 1 := by unfold sg; rw [if_neg (by decide)]; simp
  unfold lowT lowR lowB
  rw [e]
  exact ⟨Int.fdiv_one i, by decide, by decide⟩
abbrev s_is_number : Stmt := top 18
theorem sc_is_number : FnScope ["thing"] ["thing"] (defScope s_is_number) := ⟨rfl, rfl, rfl, by decide +kernel, rfl, by decide +kernel, by decide +kernel⟩

def sp_is_number (Z : Zs) : Sp := fun vs H Q E =>
  ∃ v, vs = [v] ∧ Th Z.c_Root H v ∧ Q (.bl (isN Z.c_Root H v)) H
theorem ok_is_number (T : Txt Z mg) (h_is_integral : Has P w Z.K mg base "is_integral" 1 ["thing"] (sp_is_integral Z)) (D : AtF Z.K mg "is_number" "is_number" s_is_number ["thing"]) : Has P w Z.K mg base "is_number" 2 ["thing"] (sp_is_number Z) := by
  refine D.ok sc_is_number (fun vs H Q E h => ?_) (fun cdv A outer s H vs Q E hr h => ?_)
  · obtain ⟨v, rfl, _⟩ := h
    rfl
  · refine ⟨_, (pss_one (ps_ret (pe_or (pe_callB call_isi rfl T.n_isinstance (by decide +kernel) (pa_cons (pv 0) (pa_cons (pe_glob (v := .ref Z.c_Root) rfl T.g_Root rfl) pa_nil))) (pe_one (pe_h (E := ED E) h_is_integral hr (paW (takes_of rfl rfl rfl rfl)) (pa_cons (pv 0) pa_nil)))))), ?_⟩
    try simp only [cxOf]
    obtain ⟨v, rfl, hv, q⟩ := h
    obtain ⟨ty, hty, _, _, k3, _⟩ := hv.ty T.ki
    unfold isN at q
    walk_at "W"
    refine w_isiC hty k3 ?_
    walk_at "W"
    cases e : isC Z.c_Root H v
    · rw [e] at q
      walk_at "W"
      refine ⟨v, rfl, hv, ?_⟩
      walk_at "W"
      exact q
    · rw [e] at q
      walk_at "W"
      exact q
abbrev s_as_root : Stmt := top 19
theorem sc_as_root : FnScope ["number"] ["number"] (defScope s_as_root) := ⟨rfl, rfl, rfl, by decide +kernel, rfl, by decide +kernel, by decide +kernel⟩

def sp_as_root (Z : Zs) : Sp := fun vs H Q E =>
  ∃ v t r b, vs = [v] ∧ NumAt Z.c_Root H v t r b ∧ ∀ v' H', Same H H' → RootAt Z.c_Root H' v' t r b → Q v' H'
theorem ok_as_root (T : Txt Z mg) (h_Root : HasC P w Z.K mg base "Root" Z.c_Root 3 ["self", "top", "root", "bottom"] (sp_Root_init Z)) (D : AtF Z.K mg "as_root" "as_root" s_as_root ["number"]) : Has P w Z.K mg base "as_root" 5 ["number"] (sp_as_root Z) := by
  refine D.ok sc_as_root (fun vs H Q E h => ?_) (fun cdv A outer s H vs Q E hr h => ?_)
  · obtain ⟨v, t, r, b, rfl, _⟩ := h
    rfl
  · refine ⟨_, (pss_cons (ps_if (pt_val (pe_callB call_isi rfl T.n_isinstance (by decide +kernel) (pa_cons (pv 0) (pa_cons (pe_glob (v := .ref Z.c_Root) rfl T.g_Root rfl) pa_nil)))) (pss_one (ps_ret (pv 0))) pss_nil)
      (pss_one (ps_ret (pe_hc (E := ED E) h_Root hr (paW (takes_of rfl rfl rfl rfl)) (pa_cons (pv 0) (pa_cons pe_int (pa_cons pe_int pa_nil))))))), ?_⟩
    try simp only [cxOf]
    obtain ⟨v, t, r, b, rfl, hv, q⟩ := h
    obtain ⟨ty, hty, _, _, k3, _⟩ := hv.th.ty T.ki
    walk_at "W"
    refine w_isiC hty k3 ?_
    rcases hv with hv | ⟨i, rfl, rfl, rfl, rfl⟩
    · rw [hv.isC]
      walk_at "W"
      exact q _ _ (Same.refl _) hv
    · have e : isC Z.c_Root H (.int t) = false := rfl
      rw [e]
      walk_at "W"
      refine k_mkRootI (by decide) (Bw.one.bd (by decide)) fun v' H' s hv' => ?_
      obtain ⟨e1, e2, e3⟩ := low1 t
      rw [e1, e2, e3] at hv'
      exact q _ _ s hv'
/-- the sign of t + r * the square root of 2 -/
def sgn (t r : Int) : Int :=
  if t = 0 ∧ r = 0 then 0 else if 0 ≤ t ∧ 0 ≤ r then 1 else if t ≤ 0 ∧ r ≤ 0 then -1 else if t * t > 2 * r * r then (if 0 < t then 1 else -1) else if 0 < r then 1 else -1
abbrev s_surd_sign : Stmt := top 20
theorem sc_surd_sign : FnScope ["top", "root"] ["top", "root"] (defScope s_surd_sign) := ⟨rfl, rfl, rfl, by decide +kernel, rfl, by decide +kernel, by decide +kernel⟩

def sp_surd_sign (Z : Zs) : Sp := fun vs H Q E =>
  ∃ t r : Int, vs = [.int t, .int r] ∧ Bw 3000 t ∧ Bw 3000 r ∧ Q (.int (sgn t r)) H
theorem ok_surd_sign (T : Txt Z mg)  (D : AtF Z.K mg "surd_sign" "surd_sign" s_surd_sign ["top", "root"]) : Has P w Z.K mg base "surd_sign" 1 ["top", "root"] (sp_surd_sign Z) := by
  refine D.ok sc_surd_sign (fun vs H Q E h => ?_) (fun cdv A outer s H vs Q E hr h => ?_)
  · obtain ⟨t, r, rfl, _⟩ := h
    rfl
  · refine ⟨_, (C8.pss_cut (ps_if (PW.pt (pw_and (pt_cmpR op_ge (pv 0) pe_int (nomark _)) (pw_and1 (pt_cmpR op_ge (pv 1) pe_int (nomark _))))) (pss_one (ps_ret (pe_ifExp (PW.pt (pw_or (pt_cmpR op_gt (pv 0) pe_int (nomark _)) (pw_or1 (pt_cmpR op_gt (pv 1) pe_int (nomark _))))) pe_int pe_int))) pss_nil)
      (C8.pss_cut (ps_if (PW.pt (pw_and (pt_cmpR op_le (pv 0) pe_int (nomark _)) (pw_and1 (pt_cmpR op_le (pv 1) pe_int (nomark _))))) (pss_one (ps_ret (pe_un un_neg pe_int))) pss_nil)
      (pss_cons (ps_if (pt_cmpR op_gt (pe_op op_mulS (pv 0) (pv 0)) (pe_op op_mulS (pe_op op_mulS pe_int (pv 1)) (pv 1)) (nomark _)) (pss_one (ps_ret (pe_ifExp (pt_cmpR op_gt (pv 0) pe_int (nomark _)) pe_int (pe_un un_neg pe_int)))) pss_nil)
      (pss_one (ps_ret (pe_ifExp (pt_cmpR op_gt (pv 1) pe_int (nomark _)) pe_int (pe_un un_neg pe_int))))))), ?_⟩
    try simp only [cxOf]
    obtain ⟨t, r, rfl, bt, br, q⟩ := h
    have L : ∀ {k : Int}, sgn t r = k → Q (.int k) H := fun e => e ▸ q
    have big : ¬ (t = 0 ∧ r = 0) → ¬ (0 ≤ t ∧ 0 ≤ r) → ¬ (t ≤ 0 ∧ r ≤ 0) → ∀ {k : Int}, (if t * t > 2 * r * r then (if 0 < t then 1 else -1) else if 0 < r then 1 else -1) = k → Q (.int k) H := fun n1 n2 n3 k e => L (by unfold sgn; rw [if_neg n1, if_neg n2, if_neg n3]; exact e)
    walk_at "W"
    refine w_cut (fun σ' H' => (σ' = [some (.int t), some (.int r)] ∧ H' = H) ∧ ¬ (0 ≤ t ∧ 0 ≤ r)) ?_ ?_
    · walk_at "W"
      refine w_ite (fun h1 => ?_) (fun h1 => ?_)
      · walk_at "W"
        refine w_ite (fun h2 => ?_) (fun h2 => ?_)
        · walk_at "W"
          refine w_ite (fun h3 => ?_) (fun h3 => ?_)
          · walk_at "W"
            exact L (by unfold sgn; rw [if_neg (by omega), if_pos (by omega)])
          · walk_at "W"
            refine w_ite (fun h4 => ?_) (fun h4 => ?_)
            · walk_at "W"
              exact L (by unfold sgn; rw [if_neg (by omega), if_pos (by omega)])
            · walk_at "W"
              exact L (by unfold sgn; rw [if_pos (by omega)])
        · walk_at "W"
          exact ⟨⟨rfl, rfl⟩, by omega⟩
      · walk_at "W"
        exact ⟨⟨rfl, rfl⟩, by omega⟩
    rintro σ' H' ⟨⟨rfl, rfl⟩, n2⟩
    walk_at "W"
    refine w_cut (fun σ' H1 => (σ' = [some (.int t), some (.int r)] ∧ H1 = H') ∧ ¬ (t ≤ 0 ∧ r ≤ 0)) ?_ ?_
    · walk_at "W"
      refine w_ite (fun h1 => ?_) (fun h1 => ?_)
      · walk_at "W"
        refine w_ite (fun h2 => ?_) (fun h2 => ?_)
        · walk_at "W"
          exact L (by unfold sgn; rw [if_neg (by omega), if_neg (by omega), if_pos (by omega)])
        · walk_at "W"
          exact ⟨⟨rfl, rfl⟩, by omega⟩
      · walk_at "W"
        exact ⟨⟨rfl, rfl⟩, by omega⟩
    rintro σ' H1 ⟨⟨rfl, rfl⟩, n3⟩
    walk_at "W"
    walk_at "mul"
    walk_at "W"
    walk_at "mul"
    walk_at "W"
    have go : ∀ {k : Int}, (if t * t > 2 * r * r then (if 0 < t then 1 else -1) else if 0 < r then 1 else -1) = k → Q (.int k) H1 := fun e => big (by omega) n2 n3 e
    refine w_ite (fun h1 => ?_) (fun h1 => ?_)
    · walk_at "W"
      refine w_ite (fun h2 => ?_) (fun h2 => ?_)
      · walk_at "W"
        exact go (by rw [if_pos h1, if_pos h2])
      · walk_at "W"
        exact go (by rw [if_pos h1, if_neg h2])
    · walk_at "W"
      refine w_ite (fun h2 => ?_) (fun h2 => ?_)
      · walk_at "W"
        exact go (by rw [if_neg h1, if_pos h2])
      · walk_at "W"
        exact go (by rw [if_neg h1, if_neg h2])
abbrev s_Root_add : Stmt := inClass (top 22) 2
theorem sc_Root_add : FnScope ["self", "other", "more", "top", "root"] ["self", "other"] (defScope s_Root_add) := ⟨rfl, rfl, rfl, by decide +kernel, rfl, by decide +kernel, by decide +kernel⟩

def sp_Root_add (Z : Zs) : Sp := fun vs H Q E =>
  spBin Z.c_Root plus vs H Q E
theorem ok_Root_add (T : Txt Z mg) (h_Root : HasC P w Z.K mg base "Root" Z.c_Root 3 ["self", "top", "root", "bottom"] (sp_Root_init Z)) (h_as_root : Has P w Z.K mg base "as_root" 5 ["number"] (sp_as_root Z)) (h_is_number : Has P w Z.K mg base "is_number" 2 ["thing"] (sp_is_number Z)) (D : AtM Z.K Z.c_Root "__add__" "Root.__add__" s_Root_add ["self", "other"]) : HasM P w Z.K mg base Z.c_Root "__add__" 6 ["self", "other"] (sp_Root_add Z) := by
  refine D.ok sc_Root_add (fun vs H Q E h => ?_) (fun cdv A outer s H vs Q E hr h => ?_)
  · obtain ⟨v, o, t, r, b, t', r', b', rfl, _⟩ := h
    rfl
  · refine ⟨_, (pss_cons (ps_if (pt_not (pt_val (pe_h (E := ED E) h_is_number hr (paW (takes_of rfl rfl rfl rfl)) (pa_cons (pv 1) pa_nil)))) (pss_one ps_never) pss_nil)
      (pss_cons (ps_set (i := 2) sc_Root_add.nd rfl (Or.inl rfl) (pe_h (E := ED E) h_as_root hr (paW (takes_of rfl rfl rfl rfl)) (pa_cons (pv 1) pa_nil)))
      (pss_cons (ps_set (i := 3) sc_Root_add.nd rfl (Or.inl rfl) (pe_op op_add (pe_op op_mulS (pe_fld (pv 0) rfl) (pe_fld (pv 2) rfl)) (pe_op op_mulS (pe_fld (pv 2) rfl) (pe_fld (pv 0) rfl))))
      (pss_cons (ps_set (i := 4) sc_Root_add.nd rfl (Or.inl rfl) (pe_op op_add (pe_op op_mulS (pe_fld (pv 0) rfl) (pe_fld (pv 2) rfl)) (pe_op op_mulS (pe_fld (pv 2) rfl) (pe_fld (pv 0) rfl))))
      (pss_one (ps_ret (pe_hc (E := ED E) h_Root hr (paW (takes_of rfl rfl rfl rfl)) (pa_cons (pv 3) (pa_cons (pv 4) (pa_cons (pe_op op_mulS (pe_fld (pv 0) rfl) (pe_fld (pv 2) rfl)) pa_nil)))))))))), ?_⟩
    try simp only [cxOf]
    obtain ⟨v, o, t, r, b, t', r', b', rfl, ⟨a, dx, rfl, ha⟩, ⟨bt, br, bb, lw⟩, ho, ⟨bt', br', bb', lw'⟩, q⟩ := h
    have p := lw.pos
    have p' := lw'.pos
    walk_at "W"
    refine ⟨o, rfl, ho.th, ?_⟩
    rw [ho.isN]
    walk_at "W"
    refine ⟨o, t', r', b', rfl, ho, ?_⟩
    rintro m H1 s1 ⟨a', dx', rfl, ha'⟩
    have ha1 := s1 _ _ ha
    repeat (first | walk_at "s" | walk_at "mul" | refine w_fld ha1 T.c_Root T.nf_top (rf_top _ _ _) ?_ | refine w_fld ha1 T.c_Root T.nf_root (rf_root _ _ _) ?_ | refine w_fld ha1 T.c_Root T.nf_bottom (rf_bottom _ _ _) ?_ | refine w_fld ha' T.c_Root T.nf_top (rf_top _ _ _) ?_ | refine w_fld ha' T.c_Root T.nf_root (rf_root _ _ _) ?_ | refine w_fld ha' T.c_Root T.nf_bottom (rf_bottom _ _ _) ?_)
    exact k_mkRootI (Int.mul_ne_zero (by omega) (by omega)) ((bb.mul bb').bd (by decide)) fun v' H' s' hv => q v' H' (s1.trans s') hv
abbrev s_Root_sub : Stmt := inClass (top 22) 4
theorem sc_Root_sub : FnScope ["self", "other", "less", "top", "root"] ["self", "other"] (defScope s_Root_sub) := ⟨rfl, rfl, rfl, by decide +kernel, rfl, by decide +kernel, by decide +kernel⟩

def sp_Root_sub (Z : Zs) : Sp := fun vs H Q E =>
  spBin Z.c_Root minus vs H Q E
theorem ok_Root_sub (T : Txt Z mg) (h_Root : HasC P w Z.K mg base "Root" Z.c_Root 3 ["self", "top", "root", "bottom"] (sp_Root_init Z)) (h_as_root : Has P w Z.K mg base "as_root" 5 ["number"] (sp_as_root Z)) (h_is_number : Has P w Z.K mg base "is_number" 2 ["thing"] (sp_is_number Z)) (D : AtM Z.K Z.c_Root "__sub__" "Root.__sub__" s_Root_sub ["self", "other"]) : HasM P w Z.K mg base Z.c_Root "__sub__" 6 ["self", "other"] (sp_Root_sub Z) := by
  refine D.ok sc_Root_sub (fun vs H Q E h => ?_) (fun cdv A outer s H vs Q E hr h => ?_)
  · obtain ⟨v, o, t, r, b, t', r', b', rfl, _⟩ := h
    rfl
  · refine ⟨_, (pss_cons (ps_if (pt_not (pt_val (pe_h (E := ED E) h_is_number hr (paW (takes_of rfl rfl rfl rfl)) (pa_cons (pv 1) pa_nil)))) (pss_one ps_never) pss_nil)
      (pss_cons (ps_set (i := 2) sc_Root_sub.nd rfl (Or.inl rfl) (pe_h (E := ED E) h_as_root hr (paW (takes_of rfl rfl rfl rfl)) (pa_cons (pv 1) pa_nil)))
      (pss_cons (ps_set (i := 3) sc_Root_sub.nd rfl (Or.inl rfl) (pe_op op_sub (pe_op op_mulS (pe_fld (pv 0) rfl) (pe_fld (pv 2) rfl)) (pe_op op_mulS (pe_fld (pv 2) rfl) (pe_fld (pv 0) rfl))))
      (pss_cons (ps_set (i := 4) sc_Root_sub.nd rfl (Or.inl rfl) (pe_op op_sub (pe_op op_mulS (pe_fld (pv 0) rfl) (pe_fld (pv 2) rfl)) (pe_op op_mulS (pe_fld (pv 2) rfl) (pe_fld (pv 0) rfl))))
      (pss_one (ps_ret (pe_hc (E := ED E) h_Root hr (paW (takes_of rfl rfl rfl rfl)) (pa_cons (pv 3) (pa_cons (pv 4) (pa_cons (pe_op op_mulS (pe_fld (pv 0) rfl) (pe_fld (pv 2) rfl)) pa_nil)))))))))), ?_⟩
    try simp only [cxOf]
    obtain ⟨v, o, t, r, b, t', r', b', rfl, ⟨a, dx, rfl, ha⟩, ⟨bt, br, bb, lw⟩, ho, ⟨bt', br', bb', lw'⟩, q⟩ := h
    have p := lw.pos
    have p' := lw'.pos
    walk_at "W"
    refine ⟨o, rfl, ho.th, ?_⟩
    rw [ho.isN]
    walk_at "W"
    refine ⟨o, t', r', b', rfl, ho, ?_⟩
    rintro m H1 s1 ⟨a', dx', rfl, ha'⟩
    have ha1 := s1 _ _ ha
    repeat (first | walk_at "s" | walk_at "mul" | refine w_fld ha1 T.c_Root T.nf_top (rf_top _ _ _) ?_ | refine w_fld ha1 T.c_Root T.nf_root (rf_root _ _ _) ?_ | refine w_fld ha1 T.c_Root T.nf_bottom (rf_bottom _ _ _) ?_ | refine w_fld ha' T.c_Root T.nf_top (rf_top _ _ _) ?_ | refine w_fld ha' T.c_Root T.nf_root (rf_root _ _ _) ?_ | refine w_fld ha' T.c_Root T.nf_bottom (rf_bottom _ _ _) ?_)
    exact k_mkRootI (Int.mul_ne_zero (by omega) (by omega)) ((bb.mul bb').bd (by decide)) fun v' H' s' hv => q v' H' (s1.trans s') hv
abbrev s_Root_mul : Stmt := inClass (top 22) 6
theorem sc_Root_mul : FnScope ["self", "other", "by", "top", "root"] ["self", "other"] (defScope s_Root_mul) := ⟨rfl, rfl, rfl, by decide +kernel, rfl, by decide +kernel, by decide +kernel⟩

def sp_Root_mul (Z : Zs) : Sp := fun vs H Q E =>
  spBin Z.c_Root times vs H Q E
theorem ok_Root_mul (T : Txt Z mg) (h_Root : HasC P w Z.K mg base "Root" Z.c_Root 3 ["self", "top", "root", "bottom"] (sp_Root_init Z)) (h_as_root : Has P w Z.K mg base "as_root" 5 ["number"] (sp_as_root Z)) (h_is_number : Has P w Z.K mg base "is_number" 2 ["thing"] (sp_is_number Z)) (D : AtM Z.K Z.c_Root "__mul__" "Root.__mul__" s_Root_mul ["self", "other"]) : HasM P w Z.K mg base Z.c_Root "__mul__" 6 ["self", "other"] (sp_Root_mul Z) := by
  refine D.ok sc_Root_mul (fun vs H Q E h => ?_) (fun cdv A outer s H vs Q E hr h => ?_)
  · obtain ⟨v, o, t, r, b, t', r', b', rfl, _⟩ := h
    rfl
  · refine ⟨_, (pss_cons (ps_if (pt_not (pt_val (pe_h (E := ED E) h_is_number hr (paW (takes_of rfl rfl rfl rfl)) (pa_cons (pv 1) pa_nil)))) (pss_one ps_never) pss_nil)
      (pss_cons (ps_set (i := 2) sc_Root_mul.nd rfl (Or.inl rfl) (pe_h (E := ED E) h_as_root hr (paW (takes_of rfl rfl rfl rfl)) (pa_cons (pv 1) pa_nil)))
      (pss_cons (ps_set (i := 3) sc_Root_mul.nd rfl (Or.inl rfl) (pe_op op_add (pe_op op_mulS (pe_fld (pv 0) rfl) (pe_fld (pv 2) rfl)) (pe_op op_mulS (pe_op op_mulS pe_int (pe_fld (pv 0) rfl)) (pe_fld (pv 2) rfl))))
      (pss_cons (ps_set (i := 4) sc_Root_mul.nd rfl (Or.inl rfl) (pe_op op_add (pe_op op_mulS (pe_fld (pv 0) rfl) (pe_fld (pv 2) rfl)) (pe_op op_mulS (pe_fld (pv 0) rfl) (pe_fld (pv 2) rfl))))
      (pss_one (ps_ret (pe_hc (E := ED E) h_Root hr (paW (takes_of rfl rfl rfl rfl)) (pa_cons (pv 3) (pa_cons (pv 4) (pa_cons (pe_op op_mulS (pe_fld (pv 0) rfl) (pe_fld (pv 2) rfl)) pa_nil)))))))))), ?_⟩
    try simp only [cxOf]
    obtain ⟨v, o, t, r, b, t', r', b', rfl, ⟨a, dx, rfl, ha⟩, ⟨bt, br, bb, lw⟩, ho, ⟨bt', br', bb', lw'⟩, q⟩ := h
    have p := lw.pos
    have p' := lw'.pos
    walk_at "W"
    refine ⟨o, rfl, ho.th, ?_⟩
    rw [ho.isN]
    walk_at "W"
    refine ⟨o, t', r', b', rfl, ho, ?_⟩
    rintro m H1 s1 ⟨a', dx', rfl, ha'⟩
    have ha1 := s1 _ _ ha
    repeat (first | walk_at "s" | walk_at "mul" | refine w_fld ha1 T.c_Root T.nf_top (rf_top _ _ _) ?_ | refine w_fld ha1 T.c_Root T.nf_root (rf_root _ _ _) ?_ | refine w_fld ha1 T.c_Root T.nf_bottom (rf_bottom _ _ _) ?_ | refine w_fld ha' T.c_Root T.nf_top (rf_top _ _ _) ?_ | refine w_fld ha' T.c_Root T.nf_root (rf_root _ _ _) ?_ | refine w_fld ha' T.c_Root T.nf_bottom (rf_bottom _ _ _) ?_)
    exact k_mkRootI (Int.mul_ne_zero (by omega) (by omega)) ((bb.mul bb').bd (by decide)) fun v' H' s' hv => q v' H' (s1.trans s') hv
theorem k_ownL {x y : V} {t r b t' r' b' : Int} {H : Hp} {Q : VK} {sp : Sp} {E : XK} {c : Addr} (hx : RootAt c H x t r b) (hy : NumAt c H y t' r' b') (h : sp [x, y] H Q E) : rOwnL c sp E x y H Q := by
  obtain ⟨a, dx, rfl, ha⟩ := hx
  refine ⟨a, dx, _, rfl, ha, ?_, h⟩
  rcases hy with ⟨a', dx', rfl, ha'⟩ | ⟨i, rfl, _⟩
  · exact .inr ⟨a', dx', _, rfl, ha'⟩
  · exact .inl ⟨i, rfl⟩
abbrev s_Root_radd : Stmt := inClass (top 22) 3
theorem sc_Root_radd : FnScope ["self", "other"] ["self", "other"] (defScope s_Root_radd) := ⟨rfl, rfl, rfl, by decide +kernel, rfl, by decide +kernel, by decide +kernel⟩

def sp_Root_radd (Z : Zs) : Sp := fun vs H Q E =>
  spBin Z.c_Root (back plus) vs H Q E
theorem ok_Root_radd (T : Txt Z mg) (h_Root_add : HasM P w Z.K mg base Z.c_Root "__add__" 6 ["self", "other"] (sp_Root_add Z)) (D : AtM Z.K Z.c_Root "__radd__" "Root.__radd__" s_Root_radd ["self", "other"]) : HasM P w Z.K mg base Z.c_Root "__radd__" 7 ["self", "other"] (sp_Root_radd Z) := by
  refine D.ok sc_Root_radd (fun vs H Q E h => ?_) (fun cdv A outer s H vs Q E hr h => ?_)
  · obtain ⟨v, o, t, r, b, t', r', b', rfl, _⟩ := h
    rfl
  · refine ⟨_, (pss_one (ps_ret (pe_op (op_addL T.ow T.ra h_Root_add hr passL) (pv 0) (pv 1)))), ?_⟩
    try simp only [cxOf]
    obtain ⟨v, o, t, r, b, t', r', b', rfl, hv, sm, ho, sm', q⟩ := h
    walk_at "W"
    refine k_ownL hv ho ⟨_, _, t, r, b, t', r', b', rfl, hv, sm, ho, sm', fun v' H' s' hv' => q v' H' s' ?_⟩
    exact hv'.congr (s := 1) (Int.mul_ne_zero sm'.hn sm.hn) (by decide) (by show t * b' + t' * b = (t' * b + t * b') * 1; grind) (by show r * b' + r' * b = (r' * b + r * b') * 1; grind) (by show b * b' = (b' * b) * 1; grind)
abbrev s_Root_rmul : Stmt := inClass (top 22) 7
theorem sc_Root_rmul : FnScope ["self", "other"] ["self", "other"] (defScope s_Root_rmul) := ⟨rfl, rfl, rfl, by decide +kernel, rfl, by decide +kernel, by decide +kernel⟩

def sp_Root_rmul (Z : Zs) : Sp := fun vs H Q E =>
  spBin Z.c_Root (back times) vs H Q E
theorem ok_Root_rmul (T : Txt Z mg) (h_Root_mul : HasM P w Z.K mg base Z.c_Root "__mul__" 6 ["self", "other"] (sp_Root_mul Z)) (D : AtM Z.K Z.c_Root "__rmul__" "Root.__rmul__" s_Root_rmul ["self", "other"]) : HasM P w Z.K mg base Z.c_Root "__rmul__" 7 ["self", "other"] (sp_Root_rmul Z) := by
  refine D.ok sc_Root_rmul (fun vs H Q E h => ?_) (fun cdv A outer s H vs Q E hr h => ?_)
  · obtain ⟨v, o, t, r, b, t', r', b', rfl, _⟩ := h
    rfl
  · refine ⟨_, (pss_one (ps_ret (pe_op (op_mulL T.ow T.rm h_Root_mul hr passL) (pv 0) (pv 1)))), ?_⟩
    try simp only [cxOf]
    obtain ⟨v, o, t, r, b, t', r', b', rfl, hv, sm, ho, sm', q⟩ := h
    walk_at "W"
    refine k_ownL hv ho ⟨_, _, t, r, b, t', r', b', rfl, hv, sm, ho, sm', fun v' H' s' hv' => q v' H' s' ?_⟩
    exact hv'.congr (s := 1) (Int.mul_ne_zero sm'.hn sm.hn) (by decide) (by show t * t' + 2 * r * r' = (t' * t + 2 * r' * r) * 1; grind) (by show t * r' + r * t' = (t' * r + r' * t) * 1; grind) (by show b * b' = (b' * b) * 1; grind)
abbrev s_Root_rsub : Stmt := inClass (top 22) 5
theorem sc_Root_rsub : FnScope ["self", "other"] ["self", "other"] (defScope s_Root_rsub) := ⟨rfl, rfl, rfl, by decide +kernel, rfl, by decide +kernel, by decide +kernel⟩

def sp_Root_rsub (Z : Zs) : Sp := fun vs H Q E =>
  spBin Z.c_Root (back minus) vs H Q E
theorem ok_Root_rsub (T : Txt Z mg) (h_Root_add : HasM P w Z.K mg base Z.c_Root "__add__" 6 ["self", "other"] (sp_Root_add Z)) (h_Root_neg : HasM P w Z.K mg base Z.c_Root "__neg__" 5 ["self"] (sp_Root_neg Z)) (D : AtM Z.K Z.c_Root "__rsub__" "Root.__rsub__" s_Root_rsub ["self", "other"]) : HasM P w Z.K mg base Z.c_Root "__rsub__" 7 ["self", "other"] (sp_Root_rsub Z) := by
  refine D.ok sc_Root_rsub (fun vs H Q E h => ?_) (fun cdv A outer s H vs Q E hr h => ?_)
  · obtain ⟨v, o, t, r, b, t', r', b', rfl, _⟩ := h
    rfl
  · refine ⟨_, (pss_one (ps_ret (pe_op (op_addL T.ow T.ra h_Root_add hr passL) (pe_un (un_own h_Root_neg hr passL) (pv 0)) (pv 1)))), ?_⟩
    try simp only [cxOf]
    obtain ⟨v, o, t, r, b, t', r', b', rfl, hv, sm, ho, sm', q⟩ := h
    walk_at "W"
    obtain ⟨a, dx, rfl, ha⟩ := hv
    refine ⟨a, dx, _, rfl, ha, _, t, r, b, rfl, ⟨a, dx, rfl, ha⟩, sm.hn, sm.hb.bd (by decide), fun u H1 s1 hu => ?_⟩
    walk_at "W"
    have ho1 := ho.same s1
    obtain ⟨bt, br, bb, lw⟩ := sm
    have sn := Sm.low (by have := lw.pos; omega) bt.neg br.neg bb
    refine k_ownL hu ho1 ⟨_, _, _, _, _, t', r', b', rfl, hu, sn, ho1, sm', fun v' H' s' hv' => q v' H' (s1.trans s') ?_⟩
    obtain ⟨s, hs, e1, e2, e3⟩ := (low_is (t := -t) (r := -r) (by have := lw.pos; omega : b ≠ 0)).s
    refine LowAt.congr' hv' (Int.mul_ne_zero sn.hn sm'.hn) hs ?_ ?_ ?_
    · show t' * b - t * b' = (lowT (-t) (-r) b * b' + t' * lowB (-t) (-r) b) * s
      grind
    · show r' * b - r * b' = (lowR (-t) (-r) b * b' + r' * lowB (-t) (-r) b) * s
      grind
    · show b' * b = (lowB (-t) (-r) b * b') * s
      grind
theorem nat_sq2 : ∀ m n : Nat, m * m = 2 * (n * n) → n = 0 := by
  intro m
  induction m using Nat.strongRecOn with
  | ind m ih =>
    intro n h
    rcases Nat.eq_zero_or_pos n with h0 | h0
    · exact h0
    have hn : n < m := by
      rcases Nat.lt_or_ge n m with q | q
      · exact q
      · have := Nat.mul_le_mul q q
        have : 0 < n * n := Nat.mul_pos h0 h0
        omega
    have he : m % 2 = 0 := by
      rcases Nat.mod_two_eq_zero_or_one m with q | q
      · exact q
      · have : m * m % 2 = 1 := by rw [Nat.mul_mod, q]
        omega
    obtain ⟨k, rfl⟩ : ∃ k, m = 2 * k := ⟨m / 2, by omega⟩
    have h2 : n * n = 2 * (k * k) := by
      have : 2 * k * (2 * k) = 4 * (k * k) := by grind
      omega
    have hk := ih n hn k h2
    subst hk
    simp at h2
    rcases Nat.mul_eq_zero.mp h2 with q | q <;> exact q
/-- the square root of 2 is no fraction -/
theorem sq2 {t r : Int} (h : t * t - 2 * r * r = 0) : t = 0 ∧ r = 0 := by
  have e : t.natAbs * t.natAbs = 2 * (r.natAbs * r.natAbs) := by
    have h1 : ((t.natAbs * t.natAbs : Nat) : Int) = t * t := Int.natAbs_mul_self
    have h2 : ((r.natAbs * r.natAbs : Nat) : Int) = r * r := Int.natAbs_mul_self
    have h3 : 2 * r * r = 2 * (r * r) := Int.mul_assoc ..
    omega
  have hr := nat_sq2 _ _ e
  rw [hr] at e
  simp at e
  have h0 : t.natAbs = 0 := by rcases Nat.mul_eq_zero.mp e with q | q <;> exact q
  exact ⟨by omega, by omega⟩
theorem sm_zero {t r b : Int} (h : Sm t r b) : (r = 0 ∧ b = 1 ∧ t = 0) ↔ (t = 0 ∧ r = 0) := by
  constructor
  · rintro ⟨a, _, c⟩; exact ⟨c, a⟩
  · rintro ⟨rfl, rfl⟩
    have o := h.lw.one
    have p := h.lw.pos
    simp at o
    exact ⟨rfl, by omega, rfl⟩
def quot : F3 := ⟨fun t r _ t' r' b' => (t * t' - 2 * r * r') * b', fun t r _ t' r' b' => (r * t' - t * r') * b', fun _ _ b t' r' _ => b * (t' * t' - 2 * r' * r')⟩
/-- an own error with what was bad -/
def Er (Z : Zs) (o : V) (H : Hp) (E : XK) : Prop := ∀ d H', H d = none → Same H H' → H' d = some (.xd [("value", o)]) → E (.ref Z.c_BadNumber) (some d) H'
abbrev s_Root_over : Stmt := inClass (top 22) 9
theorem sc_Root_over : FnScope ["self", "number", "by", "below", "top", "root"] ["self", "number"] (defScope s_Root_over) := ⟨rfl, rfl, rfl, by decide +kernel, rfl, by decide +kernel, by decide +kernel⟩

def sp_Root_over (Z : Zs) : Sp := fun vs H Q E =>
  ∃ v o t r b, vs = [v, o] ∧ RootAt Z.c_Root H v t r b ∧ Sm t r b ∧ Th Z.c_Root H o ∧
    (isN Z.c_Root H o = false ∧ Er Z o H E ∨ ∃ t' r' b', NumAt Z.c_Root H o t' r' b' ∧ Sm t' r' b' ∧ ((t' = 0 ∧ r' = 0) ∧ Er Z o H E ∨ ¬ (t' = 0 ∧ r' = 0) ∧
      ∀ v' H', Same H H' → LowAt Z.c_Root H' v' (quot.t t r b t' r' b') (quot.r t r b t' r' b') (quot.b t r b t' r' b') → Q v' H'))
theorem ok_Root_over (T : Txt Z mg) (h_Root : HasC P w Z.K mg base "Root" Z.c_Root 3 ["self", "top", "root", "bottom"] (sp_Root_init Z)) (h_as_root : Has P w Z.K mg base "as_root" 5 ["number"] (sp_as_root Z)) (h_is_number : Has P w Z.K mg base "is_number" 2 ["thing"] (sp_is_number Z)) (h_BadNumber : HasX P w Z.K mg base "BadNumber" Z.c_BadNumber 1 ["self", "value"] (sp_BadNumber_init Z)) (h_Root_eq : HasM P w Z.K mg base Z.c_Root "__eq__" 2 ["self", "other"] (sp_Root_eq Z)) (D : AtM Z.K Z.c_Root "over" "Root.over" s_Root_over ["self", "number"]) : HasM P w Z.K mg base Z.c_Root "over" 6 ["self", "number"] (sp_Root_over Z) := by
  refine D.ok sc_Root_over (fun vs H Q E h => ?_) (fun cdv A outer s H vs Q E hr h => ?_)
  · obtain ⟨v, o, t, r, b, rfl, _⟩ := h
    rfl
  · refine ⟨_, (pss_cons (ps_if (PW.pt (pw_or (pt_not (pt_val (pe_h (E := ED E) h_is_number hr (paW (takes_of rfl rfl rfl rfl)) (pa_cons (pv 1) pa_nil)))) (pw_or1 (pt_cmpR ((op_eqC h_Root_eq hr passL).or op_eq) (pv 1) pe_int (nomark _))))) (pss_one (ps_raise rfl (takes_of rfl rfl rfl rfl) (pm_h T.x_BadNumber h_BadNumber hr (pa_cons (pv 1) pa_nil)))) pss_nil)
      (pss_cons (ps_set (i := 2) sc_Root_over.nd rfl (Or.inl rfl) (pe_h (E := ED E) h_as_root hr (paW (takes_of rfl rfl rfl rfl)) (pa_cons (pv 1) pa_nil)))
      (pss_cons (ps_set (i := 3) sc_Root_over.nd rfl (Or.inl rfl) (pe_op op_sub (pe_op op_mulS (pe_fld (pv 2) rfl) (pe_fld (pv 2) rfl)) (pe_op op_mulS (pe_op op_mulS pe_int (pe_fld (pv 2) rfl)) (pe_fld (pv 2) rfl))))
      (pss_cons (ps_set (i := 4) sc_Root_over.nd rfl (Or.inl rfl) (pe_op op_sub (pe_op op_mulS (pe_fld (pv 0) rfl) (pe_fld (pv 2) rfl)) (pe_op op_mulS (pe_op op_mulS pe_int (pe_fld (pv 0) rfl)) (pe_fld (pv 2) rfl))))
      (pss_cons (ps_set (i := 5) sc_Root_over.nd rfl (Or.inl rfl) (pe_op op_sub (pe_op op_mulS (pe_fld (pv 0) rfl) (pe_fld (pv 2) rfl)) (pe_op op_mulS (pe_fld (pv 0) rfl) (pe_fld (pv 2) rfl))))
      (pss_one (ps_ret (pe_hc (E := ED E) h_Root hr (paW (takes_of rfl rfl rfl rfl)) (pa_cons (pe_op op_mulS (pv 4) (pe_fld (pv 2) rfl)) (pa_cons (pe_op op_mulS (pv 5) (pe_fld (pv 2) rfl)) (pa_cons (pe_op op_mulS (pe_fld (pv 0) rfl) (pv 3)) pa_nil))))))))))), ?_⟩
    try simp only [cxOf]
    obtain ⟨v, o, t, r, b, rfl, ⟨a, dx, rfl, ha⟩, ⟨bt, br, bb, lw⟩, ho, hh⟩ := h
    have p := lw.pos
    walk_at "W"
    refine ⟨o, rfl, ho, ?_⟩
    rcases hh with ⟨e, er⟩ | ⟨t', r', b', hn, sm, hq⟩
    · rw [e]
      walk_at "W"
      exact k_mkO fun d H2 hd s4 e4 => er d H2 hd s4 e4
    rw [hn.isN]
    walk_at "W"
    have z0 : ∀ {QQ : VK}, QQ (.bl (decide (t' = 0 ∧ r' = 0))) H → (rOwnC Z.K Z.c_Root (sp_Root_eq Z) E0 o (.int 0) H QQ ∨ rEq o (.int 0) H QQ) := fun {QQ} qq => by
      rcases hn with hn | ⟨i, rfl, rfl, rfl, rfl⟩
      · refine .inl (k_eqC T hn (.int 0) ?_)
        have : eqRt H t' r' b' (.int 0) = decide (t' = 0 ∧ r' = 0) := by
          show (decide (r' = 0) && (decide (b' = 1) && decide (t' = 0))) = _
          rw [← Bool.decide_and, ← Bool.decide_and]
          exact decide_eq_decide.mpr (sm_zero sm)
        rw [this]
        exact qq
      · refine .inr (w_eq rfl ?_)
        rw [show decide (V.int t' = V.int 0) = decide (t' = 0 ∧ (0 : Int) = 0) from decide_eq_decide.mpr (by simp)]
        exact qq
    refine z0 ?_
    obtain ⟨bt', br', bb', lw'⟩ := sm
    rcases hq with ⟨e, er⟩ | ⟨e, q⟩
    · rw [decide_eq_true e]
      walk_at "W"
      exact k_mkO fun d H2 hd s4 e4 => er d H2 hd s4 e4
    · rw [decide_eq_false e]
      walk_at "W"
      refine ⟨o, t', r', b', rfl, hn, ?_⟩
      rintro m H1 s1 ⟨a', dx', rfl, ha'⟩
      have ha1 := s1 _ _ ha
      repeat (first | walk_at "s" | walk_at "mul" | refine w_fld ha1 T.c_Root T.nf_top (rf_top _ _ _) ?_ | refine w_fld ha1 T.c_Root T.nf_root (rf_root _ _ _) ?_ | refine w_fld ha1 T.c_Root T.nf_bottom (rf_bottom _ _ _) ?_ | refine w_fld ha' T.c_Root T.nf_top (rf_top _ _ _) ?_ | refine w_fld ha' T.c_Root T.nf_root (rf_root _ _ _) ?_ | refine w_fld ha' T.c_Root T.nf_bottom (rf_bottom _ _ _) ?_)
      exact k_mkRootI (Int.mul_ne_zero (by omega) fun z => e (sq2 z)) ((bb.mul ((bt'.mul bt').sub ((Bw.two.mul br').mul br'))).bd (by decide)) fun v' H' s' hv => q v' H' (s1.trans s') hv
abbrev s_Root_less : Stmt := inClass (top 22) 10
theorem sc_Root_less : FnScope ["self", "number", "more", "top", "root"] ["self", "number"] (defScope s_Root_less) := ⟨rfl, rfl, rfl, by decide +kernel, rfl, by decide +kernel, by decide +kernel⟩

def sp_Root_less (Z : Zs) : Sp := fun vs H Q E =>
  ∃ v o t r b, vs = [v, o] ∧ RootAt Z.c_Root H v t r b ∧ Sm t r b ∧ Th Z.c_Root H o ∧
    (isN Z.c_Root H o = false ∧ Er Z o H E ∨ ∃ t' r' b', NumAt Z.c_Root H o t' r' b' ∧ Sm t' r' b' ∧
      ∀ H', Same H H' → Q (.bl (decide (sgn (minus.t t r b t' r' b') (minus.r t r b t' r' b') < 0))) H')
theorem ok_Root_less (T : Txt Z mg) (h_surd_sign : Has P w Z.K mg base "surd_sign" 1 ["top", "root"] (sp_surd_sign Z)) (h_as_root : Has P w Z.K mg base "as_root" 5 ["number"] (sp_as_root Z)) (h_is_number : Has P w Z.K mg base "is_number" 2 ["thing"] (sp_is_number Z)) (h_BadNumber : HasX P w Z.K mg base "BadNumber" Z.c_BadNumber 1 ["self", "value"] (sp_BadNumber_init Z)) (D : AtM Z.K Z.c_Root "less" "Root.less" s_Root_less ["self", "number"]) : HasM P w Z.K mg base Z.c_Root "less" 6 ["self", "number"] (sp_Root_less Z) := by
  refine D.ok sc_Root_less (fun vs H Q E h => ?_) (fun cdv A outer s H vs Q E hr h => ?_)
  · obtain ⟨v, o, t, r, b, rfl, _⟩ := h
    rfl
  · refine ⟨_, (pss_cons (ps_if (pt_not (pt_val (pe_h (E := ED E) h_is_number hr (paW (takes_of rfl rfl rfl rfl)) (pa_cons (pv 1) pa_nil)))) (pss_one (ps_raise rfl (takes_of rfl rfl rfl rfl) (pm_h T.x_BadNumber h_BadNumber hr (pa_cons (pv 1) pa_nil)))) pss_nil)
      (pss_cons (ps_set (i := 2) sc_Root_less.nd rfl (Or.inl rfl) (pe_h (E := ED E) h_as_root hr (paW (takes_of rfl rfl rfl rfl)) (pa_cons (pv 1) pa_nil)))
      (pss_cons (ps_set (i := 3) sc_Root_less.nd rfl (Or.inl rfl) (pe_op op_sub (pe_op op_mulS (pe_fld (pv 0) rfl) (pe_fld (pv 2) rfl)) (pe_op op_mulS (pe_fld (pv 2) rfl) (pe_fld (pv 0) rfl))))
      (pss_cons (ps_set (i := 4) sc_Root_less.nd rfl (Or.inl rfl) (pe_op op_sub (pe_op op_mulS (pe_fld (pv 0) rfl) (pe_fld (pv 2) rfl)) (pe_op op_mulS (pe_fld (pv 2) rfl) (pe_fld (pv 0) rfl))))
      (pss_one (ps_ret (pe_cmpR op_lt (pe_h (E := ED E) h_surd_sign hr (paW (takes_of rfl rfl rfl rfl)) (pa_cons (pv 3) (pa_cons (pv 4) pa_nil))) pe_int (nomark _)))))))), ?_⟩
    try simp only [cxOf]
    obtain ⟨v, o, t, r, b, rfl, ⟨a, dx, rfl, ha⟩, ⟨bt, br, bb, lw⟩, ho, hh⟩ := h
    walk_at "W"
    refine ⟨o, rfl, ho, ?_⟩
    rcases hh with ⟨e, er⟩ | ⟨t', r', b', hn, ⟨bt', br', bb', lw'⟩, q⟩
    · rw [e]
      walk_at "W"
      exact k_mkO fun d H2 hd s4 e4 => er d H2 hd s4 e4
    rw [hn.isN]
    walk_at "W"
    refine ⟨o, t', r', b', rfl, hn, ?_⟩
    rintro m H1 s1 ⟨a', dx', rfl, ha'⟩
    have ha1 := s1 _ _ ha
    repeat (first | walk_at "s" | walk_at "mul" | refine w_fld ha1 T.c_Root T.nf_top (rf_top _ _ _) ?_ | refine w_fld ha1 T.c_Root T.nf_root (rf_root _ _ _) ?_ | refine w_fld ha1 T.c_Root T.nf_bottom (rf_bottom _ _ _) ?_ | refine w_fld ha' T.c_Root T.nf_top (rf_top _ _ _) ?_ | refine w_fld ha' T.c_Root T.nf_root (rf_root _ _ _) ?_ | refine w_fld ha' T.c_Root T.nf_bottom (rf_bottom _ _ _) ?_)
    refine ⟨_, _, rfl, ((bt.mul bb').sub (bt'.mul bb)).mono (by decide), ((br.mul bb').sub (br'.mul bb)).mono (by decide), ?_⟩
    walk_at "W"
    exact q H1 s1
abbrev s_Root_sign : Stmt := inClass (top 22) 11
theorem sc_Root_sign : FnScope ["self"] ["self"] (defScope s_Root_sign) := ⟨rfl, rfl, rfl, by decide +kernel, rfl, by decide +kernel, by decide +kernel⟩

def sp_Root_sign (Z : Zs) : Sp := fun vs H Q E =>
  ∃ v t r b, vs = [v] ∧ RootAt Z.c_Root H v t r b ∧ Sm t r b ∧ Q (.int (sgn t r)) H
theorem ok_Root_sign (T : Txt Z mg) (h_surd_sign : Has P w Z.K mg base "surd_sign" 1 ["top", "root"] (sp_surd_sign Z)) (D : AtM Z.K Z.c_Root "sign" "Root.sign" s_Root_sign ["self"]) : HasM P w Z.K mg base Z.c_Root "sign" 2 ["self"] (sp_Root_sign Z) := by
  refine D.ok sc_Root_sign (fun vs H Q E h => ?_) (fun cdv A outer s H vs Q E hr h => ?_)
  · obtain ⟨v, t, r, b, rfl, _⟩ := h
    rfl
  · refine ⟨_, (pss_one (ps_ret (pe_h (E := ED E) h_surd_sign hr (paW (takes_of rfl rfl rfl rfl)) (pa_cons (pe_fld (pv 0) rfl) (pa_cons (pe_fld (pv 0) rfl) pa_nil))))), ?_⟩
    try simp only [cxOf]
    obtain ⟨v, t, r, b, rfl, ⟨a, dx, rfl, ha⟩, ⟨bt, br, bb, lw⟩, q⟩ := h
    repeat (first | walk_at "s" | refine w_fld ha T.c_Root T.nf_top (rf_top _ _ _) ?_ | refine w_fld ha T.c_Root T.nf_root (rf_root _ _ _) ?_ | refine w_fld ha T.c_Root T.nf_bottom (rf_bottom _ _ _) ?_)
    exact ⟨_, _, rfl, bt.mono (by decide), br.mono (by decide), q⟩
theorem Th.isN_same {c : Addr} {H H' : Hp} {v : V} (h : Th c H v) (s : Same H H') : isN c H' v = isN c H v := by
  have k : ∀ {a : Addr} {o : HO}, H a = some o → isN c H' (.ref a) = isN c H (.ref a) := fun {a o} e => by
    unfold isN isC
    simp only [e, s _ _ e]
  cases h with
  | lst a xs e => exact k e
  | tup a xs e => exact k e
  | dK a xs e => exact k e
  | root a dx t r b e => exact k e
  | _ => rfl
theorem LowAt.same {c : Addr} {H H' : Hp} {v : V} {t r b : Int} (h : LowAt c H v t r b) (s : Same H H') : LowAt c H' v t r b := RootAt.same h s
/-! ### what two numbers make, told of the same numbers times something -/
def Hom (F : F3) : Prop := ∀ t r b t' r' b' s s' : Int, s ≠ 0 → s' ≠ 0 → ∃ k : Int, k ≠ 0 ∧ F.t (t * s) (r * s) (b * s) (t' * s') (r' * s') (b' * s') = F.t t r b t' r' b' * k ∧
  F.r (t * s) (r * s) (b * s) (t' * s') (r' * s') (b' * s') = F.r t r b t' r' b' * k ∧ F.b (t * s) (r * s) (b * s) (t' * s') (r' * s') (b' * s') = F.b t r b t' r' b' * k
theorem hom_plus : Hom plus := fun t r b t' r' b' s s' h h' => ⟨s * s', Int.mul_ne_zero h h', by unfold plus; dsimp only; grind, by unfold plus; dsimp only; grind, by unfold plus; dsimp only; grind⟩
theorem hom_minus : Hom minus := fun t r b t' r' b' s s' h h' => ⟨s * s', Int.mul_ne_zero h h', by unfold minus; dsimp only; grind, by unfold minus; dsimp only; grind, by unfold minus; dsimp only; grind⟩
theorem hom_times : Hom times := fun t r b t' r' b' s s' h h' => ⟨s * s', Int.mul_ne_zero h h', by unfold times; dsimp only; grind, by unfold times; dsimp only; grind, by unfold times; dsimp only; grind⟩
theorem hom_quot : Hom quot := fun t r b t' r' b' s s' h h' => ⟨s * (s' * s'), Int.mul_ne_zero h (Int.mul_ne_zero h' h'), by unfold quot; dsimp only; grind, by unfold quot; dsimp only; grind, by unfold quot; dsimp only; grind⟩
/-- what the lowest terms make is what the numbers make -/
theorem low_hom {F : F3} (hF : Hom F) {c : Addr} {H : Hp} {v : V} {t r b t' r' b' : Int} (hb : b ≠ 0) (hb' : b' ≠ 0) (n : F.b (lowT t r b) (lowR t r b) (lowB t r b) (lowT t' r' b') (lowR t' r' b') (lowB t' r' b') ≠ 0)
    (h : LowAt c H v (F.t (lowT t r b) (lowR t r b) (lowB t r b) (lowT t' r' b') (lowR t' r' b') (lowB t' r' b')) (F.r (lowT t r b) (lowR t r b) (lowB t r b) (lowT t' r' b') (lowR t' r' b') (lowB t' r' b')) (F.b (lowT t r b) (lowR t r b) (lowB t r b) (lowT t' r' b') (lowR t' r' b') (lowB t' r' b'))) :
    LowAt c H v (F.t t r b t' r' b') (F.r t r b t' r' b') (F.b t r b t' r' b') := by
  obtain ⟨s, hs, e1, e2, e3⟩ := (low_is (t := t) (r := r) hb).s
  obtain ⟨s', hs', e1', e2', e3'⟩ := (low_is (t := t') (r := r') hb').s
  obtain ⟨k, hk, k1, k2, k3⟩ := hF (lowT t r b) (lowR t r b) (lowB t r b) (lowT t' r' b') (lowR t' r' b') (lowB t' r' b') s s' hs hs'
  rw [← e1, ← e2, ← e3, ← e1', ← e2', ← e3'] at k1 k2 k3
  exact h.congr' n hk k1 k2 k3
theorem k_ownB {x y : V} {t r b t' r' b' : Int} {H : Hp} {Q : VK} {sp spr : Sp} {E : XK} {c : Addr} {F : F3} (e1 : sp = spBin c F) (e2 : spr = spBin c (back F)) (hx : NumAt c H x t r b) (hy : NumAt c H y t' r' b') (one : RootAt c H x t r b ∨ RootAt c H y t' r' b') (sm : Sm t r b) (sm' : Sm t' r' b')
    (q : ∀ v' H', Same H H' → LowAt c H' v' (F.t t r b t' r' b') (F.r t r b t' r' b') (F.b t r b t' r' b') → Q v' H') : rOwnB c sp spr E x y H Q := by
  subst e1 e2
  have two : ∀ {v : V} {t r b : Int}, NumAt c H v t r b → (∃ i, v = .int i) ∨ ∃ a' dx' fs', v = .ref a' ∧ H a' = some (.ins c dx' fs') := fun h => by
    rcases h with ⟨a', dx', rfl, ha'⟩ | ⟨i, rfl, _⟩
    · exact .inr ⟨a', dx', _, rfl, ha'⟩
    · exact .inl ⟨i, rfl⟩
  rcases hx with hx | ⟨i, rfl, hi⟩
  · have hx' := hx
    obtain ⟨a, dx, rfl, ha⟩ := hx
    exact .inl ⟨a, dx, _, rfl, ha, two hy, _, _, t, r, b, t', r', b', rfl, hx', sm, hy, sm', q⟩
  · rcases one with ⟨a, dx, z, _⟩ | hy'
    · cases z
    · have hy2 := hy'
      obtain ⟨a, dx, rfl, ha⟩ := hy2
      exact .inr ⟨i, a, dx, _, rfl, rfl, ha, _, _, t', r', b', t, r, b, rfl, hy', sm', .inr ⟨i, rfl, hi⟩, sm, q⟩
theorem eqRt_num {H : Hp} {t r b t' r' b' : Int} {v : V} {c : Addr} (h : NumAt c H v t' r' b') : eqRt H t r b v = decide (t' = t ∧ r' = r ∧ b' = b) ∨ ∃ i, v = .int i ∧ t' = i ∧ r' = 0 ∧ b' = 1 ∧ eqRt H t r b v = (decide (r = 0) && (decide (b = 1) && decide (t = i))) := by
  rcases h with h | ⟨i, rfl, h1, h2, h3⟩
  · exact .inl (eqRt_root h)
  · exact .inr ⟨i, rfl, h1, h2, h3, rfl⟩
theorem eqRt_self {H : Hp} {t r b : Int} {v : V} {c : Addr} (h : NumAt c H v t r b) : eqRt H t r b v = true := by
  rcases eqRt_num (t := t) (r := r) (b := b) h with e | ⟨i, rfl, rfl, rfl, rfl, e⟩
  · rw [e]; simp
  · rw [e]; simp
theorem NumAt.sx {c st sc : Addr} {H H' : Hp} {v : V} {t r b : Int} (h : NumAt c H v t r b) (hs : StA H st sc) (s : SameX st H H') : NumAt c H' v t r b := h.imp (·.sx hs s) id
/-- != of plain things -/
def rNeU (K : PySem.W.Frag) : R2 := fun x y H Q => rNeD K x y H Q ∨ rNeDA x y H Q
theorem op_neU {X : Cx} (hu : X.A.units + 64 < cLine) : OpR X (compareOp .NotEq) (rNeU X.K) := (op_neD hu).or (op_ne_dictA (by omega))
theorem w_neSelf {K : PySem.W.Frag} {H : Hp} {Q : VK} {v : V} (h : (∃ b, v = .bl b) ∨ Selfy H v) (q : Q (.bl false) H) : rNeU K v v H Q := by
  have go : ∀ d, Dp K H v d → SeqAt.shaped d = true → rNeU K v v H Q := fun d hd sd => .inl ⟨d, d, hd, hd, sd, sd, by rw [SeqAt.eqv_refl d (SeqAt.canLay_of_shaped sd)]; exact q⟩
  rcases h with ⟨b, rfl⟩ | h
  · exact go _ (.bl b) (by cases b <;> decide +kernel)
  cases h with
  | non => exact go _ .non (by decide +kernel)
  | int i => exact go _ (.int i) rfl
  | str s h => exact go _ (.str s) h
  | lst a ns e => exact go _ (.lst (SqL.of e) (dp_ints ns)) (shaped_intsL ns)
  | tup a ns e => exact go _ (.tup (SqT.of e) (dp_ints ns)) (shaped_ints ns)
  | dK a e => exact .inr ⟨a, a, [], [], rfl, rfl, e, e, rfl, (fun _ h => nomatch h), q⟩
theorem T3.sx {H H' : Hp} {st sc u : Addr} {t r b : Int} (h : T3 H u t r b) (hs : StA H st sc) (s : SameX st H H') : T3 H' u t r b := s _ _ (hs.ne h (by intro xs z; cases z)) h
theorem NumAt.isB {c : Addr} {H : Hp} {v : V} {t r b : Int} (h : NumAt c H v t r b) : isB v = false := by
  rcases h with ⟨a, dx, rfl, e⟩ | ⟨i, rfl, _⟩ <;> rfl
theorem k_eq0 {mg : Str → Option Value} (T : Txt Z mg) {H : Hp} {Q : VK} {E : XK} {o : V} {t' r' b' : Int} (hn : NumAt Z.c_Root H o t' r' b') (sm : Sm t' r' b') (z : t' = 0 ∧ r' = 0) (q : Q (.bl true) H) : rOwnC Z.K Z.c_Root (sp_Root_eq Z) E o (.int 0) H Q ∨ rEq o (.int 0) H Q := by
  rcases hn with hn | ⟨i, rfl, h1, h2, h3⟩
  · refine .inl (k_eqC T hn (.int 0) ?_)
    have : eqRt H t' r' b' (.int 0) = true := by
      show (decide (r' = 0) && (decide (b' = 1) && decide (t' = 0))) = true
      rw [← Bool.decide_and, ← Bool.decide_and]
      exact decide_eq_true ((sm_zero sm).mpr z)
    rw [this]
    exact q
  · refine .inr (w_eq rfl ?_)
    have : i = 0 := by omega
    subst this
    exact q
theorem k_eqS {mg : Str → Option Value} (T : Txt Z mg) {H : Hp} {Q : VK} {E : XK} {x y : V} {t r b : Int} (hx : NumAt Z.c_Root H x t r b) (hy : RootAt Z.c_Root H y t r b) (q : Q (.bl true) H) : rOwnC Z.K Z.c_Root (sp_Root_eq Z) E x y H Q ∨ rOwnR Z.K Z.c_Root (sp_Root_eq Z) E x y H Q := by
  have hn : NumAt Z.c_Root H y t r b := .inl hy
  rcases hx with hx | ⟨i, rfl, h1, h2, h3⟩
  · exact .inl (k_eqC T hx hy.th (by rw [eqRt_self hn]; exact q))
  · refine .inr (k_eqR T hy (.inl ⟨i, rfl⟩) ?_)
    rw [eqRt_self (.inr ⟨i, rfl, h1, h2, h3⟩ : NumAt Z.c_Root H (.int i) t r b)]
    exact q
theorem Selfy.same {H H' : Hp} {v : V} (h : Selfy H v) (s : Same H H') : Selfy H' v := by
  cases h with
  | non => exact .non
  | int i => exact .int i
  | str x h => exact .str x h
  | lst a ns e => exact .lst a ns (s _ _ e)
  | tup a ns e => exact .tup a ns (s _ _ e)
  | dK a e => exact .dK a (s _ _ e)
theorem low_zero {t r b : Int} (hb : b ≠ 0) : (lowT t r b = 0 ∧ lowR t r b = 0) ↔ (t = 0 ∧ r = 0) := by
  obtain ⟨s, hs, e1, e2, _⟩ := (low_is (t := t) (r := r) hb).s
  constructor
  · rintro ⟨h1, h2⟩
    rw [h1] at e1; rw [h2] at e2
    exact ⟨by omega, by omega⟩
  · rintro ⟨h1, h2⟩
    exact ⟨(Int.mul_eq_zero.mp (e1.symm.trans h1)).resolve_right hs, (Int.mul_eq_zero.mp (e2.symm.trans h2)).resolve_right hs⟩
theorem LowAt.eq {c : Addr} {H : Hp} {v : V} {t r b t' r' b' : Int} (h : LowAt c H v t r b) (e1 : t = t') (e2 : r = r') (e3 : b = b') : LowAt c H v t' r' b' := by rw [← e1, ← e2, ← e3]; exact h
theorem sgn_scale {t r k : Int} (hk : 0 < k) : sgn (t * k) (r * k) = sgn t r := by
  have z : ∀ x : Int, (x * k = 0) = (x = 0) := fun x => propext ⟨fun h => (Int.mul_eq_zero.mp h).resolve_right (by omega), fun h => by rw [h, Int.zero_mul]⟩
  have p : ∀ x : Int, (0 ≤ x * k) = (0 ≤ x) := fun x => propext ⟨fun h => by
    rcases Int.lt_or_le x 0 with q | q
    · have := Int.mul_neg_of_neg_of_pos q hk; omega
    · exact q, fun h => Int.mul_nonneg h (by omega)⟩
  have n : ∀ x : Int, (x * k ≤ 0) = (x ≤ 0) := fun x => propext ⟨fun h => by
    rcases Int.lt_or_le 0 x with q | q
    · have := Int.mul_pos q hk; omega
    · exact q, fun h => Int.mul_nonpos_of_nonpos_of_nonneg h (by omega)⟩
  have g : ∀ x : Int, (0 < x * k) = (0 < x) := fun x => propext ⟨fun h => by
    rcases Int.lt_or_le 0 x with q | q
    · exact q
    · have := Int.mul_nonpos_of_nonpos_of_nonneg q (show 0 ≤ k by omega); omega, fun h => Int.mul_pos h hk⟩
  have kk : 0 < k * k := Int.mul_pos hk hk
  have m : (t * k * (t * k) > 2 * (r * k) * (r * k)) = (t * t > 2 * r * r) := by
    have e1 : t * k * (t * k) = (t * t) * (k * k) := by grind
    have e2 : 2 * (r * k) * (r * k) = (2 * r * r) * (k * k) := by grind
    rw [e1, e2]
    exact propext ⟨fun h => Int.lt_of_mul_lt_mul_right h (by omega), fun h => Int.mul_lt_mul_of_pos_right h kk⟩
  unfold sgn
  simp only [z, p, n, g, m]
theorem low_pos {t r b : Int} (hb : 0 < b) : ∃ s : Int, 0 < s ∧ t = lowT t r b * s ∧ r = lowR t r b * s ∧ b = lowB t r b * s := by
  have l := low_is (t := t) (r := r) (show b ≠ 0 by omega)
  obtain ⟨s, hs, e1, e2, e3⟩ := l.s
  refine ⟨s, ?_, e1, e2, e3⟩
  rcases Int.lt_trichotomy s 0 with q | q | q
  · have := Int.mul_neg_of_pos_of_neg l.pos q; omega
  · exact absurd q hs
  · exact q
theorem minus_sgn {t1 r1 b1 t2 r2 b2 : Int} (h1 : 0 < b1) (h2 : 0 < b2) : sgn (minus.t (lowT t1 r1 b1) (lowR t1 r1 b1) (lowB t1 r1 b1) (lowT t2 r2 b2) (lowR t2 r2 b2) (lowB t2 r2 b2)) (minus.r (lowT t1 r1 b1) (lowR t1 r1 b1) (lowB t1 r1 b1) (lowT t2 r2 b2) (lowR t2 r2 b2) (lowB t2 r2 b2)) = sgn (minus.t t1 r1 b1 t2 r2 b2) (minus.r t1 r1 b1 t2 r2 b2) := by
  obtain ⟨s, hs, e1, e2, e3⟩ := low_pos (t := t1) (r := r1) h1
  obtain ⟨s', hs', e1', e2', e3'⟩ := low_pos (t := t2) (r := r2) h2
  generalize lowT t1 r1 b1 = x at *
  generalize lowR t1 r1 b1 = y at *
  generalize lowB t1 r1 b1 = z at *
  generalize lowT t2 r2 b2 = x' at *
  generalize lowR t2 r2 b2 = y' at *
  generalize lowB t2 r2 b2 = z' at *
  subst e1 e2 e3 e1' e2' e3'
  have k1 : minus.t (x * s) (y * s) (z * s) (x' * s') (y' * s') (z' * s') = minus.t x y z x' y' z' * (s * s') := by unfold minus; dsimp only; grind
  have k2 : minus.r (x * s) (y * s) (z * s) (x' * s') (y' * s') (z' * s') = minus.r x y z x' y' z' * (s * s') := by unfold minus; dsimp only; grind
  rw [k1, k2, sgn_scale (Int.mul_pos hs hs')]
-- needs W9
theorem isTu_same {H H' : Hp} {v : V} (h : Plain H v) (s : Same H H') : isTu H' v = isTu H v := by
  cases h with
  | lst a xs e => rw [isTu_lst e, isTu_lst (s _ _ e)]
  | tup a xs e => rw [isTu_tup e, isTu_tup (s _ _ e)]
  | dK a xs e => rw [isTu_dK e, isTu_dK (s _ _ e)]
  | _ => rfl
/-- an own error of the class C with o in its field f -/
def ErX (C : Addr) (f : Str) (o : V) (H : Hp) (E : XK) : Prop := ∀ d H', H d = none → Same H H' → H' d = some (.xd [(f, o)]) → E (.ref C) (some d) H'
theorem ErX.same {C : Addr} {f : Str} {o : V} {H H' : Hp} {E : XK} (h : ErX C f o H E) (s : Same H H') : ErX C f o H' E := fun d H2 hd s2 e => h d H2 (s.free hd) (s.trans s2) e
theorem dec_len {n k : Nat} : decide (V.int ((n : Nat) : Int) = V.int (k : Int)) = decide (n = k) := decide_eq_decide.mpr ⟨fun h => by injection h with h; omega, fun h => by rw [h]⟩
-- needs W9
local macro_rules | `(tactic| walk_at "s") => `(tactic| first | with_reducible refine L2.My.w_chain ?_ | with_reducible refine L2.My.w_lcTT ?_ | with_reducible refine L2.My.w_forZT ?_ | with_reducible refine L2.My.w_bm ?_)
/-- four ints -/
structure C4 where
  a : Int
  b : Int
  c : Int
  d : Int
def C4.vs (c : C4) : List V := [.int c.a, .int c.b, .int c.c, .int c.d]
def CorAt (H : Hp) (v : V) (c : C4) : Prop := ∃ p, v = .ref p ∧ H p = some (.tup [.int c.a, .int c.b, .int c.c, .int c.d])
theorem CorAt.same {H H' : Hp} {v : V} {c : C4} (h : CorAt H v c) (s : Same H H') : CorAt H' v c := by
  obtain ⟨p, rfl, e⟩ := h
  exact ⟨p, rfl, s _ _ e⟩
theorem CorAt.kps {H H' : Hp} {v : V} {c : C4} (h : CorAt H v c) (s : Kps H H') : CorAt H' v c := by
  obtain ⟨p, rfl, e⟩ := h
  exact ⟨p, rfl, s.tup e⟩
def isCor (xs : List V) : Bool := decide (xs.length = 4) && xs.all isI
/-- a thing that is no corner -/
def BadCor (Z : Zs) (H : Hp) (v : V) : Prop := (Plain H v ∧ isTu H v = false) ∨ ∃ p xs, v = .ref p ∧ H p = some (.tup xs) ∧ xs.length ≤ 500 ∧ (∀ x ∈ xs, ThI Z H x) ∧ isCor xs = false
theorem BadCor.same {Z : Zs} {H H' : Hp} {v : V} (h : BadCor Z H v) (s : Same H H') : BadCor Z H' v := by
  rcases h with ⟨a, b⟩ | ⟨p, xs, rfl, e, l, x, c⟩
  · exact .inl ⟨a.same s, (isTu_same a s).trans b⟩
  · exact .inr ⟨p, xs, rfl, s _ _ e, l, fun y hy => thI_same (x y hy) s, c⟩
abbrev s_is_corner : Stmt := top 28
theorem sc_is_corner : FnScope ["thing", "part"] ["thing"] (defScope s_is_corner) := ⟨rfl, rfl, rfl, by decide +kernel, rfl, by decide +kernel, by decide +kernel⟩

def sp_is_corner (Z : Zs) : Sp := fun vs H Q E =>
  ∃ v, vs = [v] ∧ ((Plain H v ∧ isTu H v = false ∧ Q (.bl false) H) ∨ ∃ p xs, v = .ref p ∧ H p = some (.tup xs) ∧ xs.length ≤ 500 ∧ (∀ x ∈ xs, ThI Z H x) ∧ ∀ H', Same H H' → Q (.bl (isCor xs)) H')
theorem ok_is_corner (T : Txt Z mg) (h_is_integral : Has P w Z.K mg base "is_integral" 1 ["thing"] (sp_is_integral Z)) (D : AtF Z.K mg "is_corner" "is_corner" s_is_corner ["thing"]) : Has P w Z.K mg base "is_corner" 2 ["thing"] (sp_is_corner Z) := by
  refine D.ok sc_is_corner (fun vs H Q E h => ?_) (fun cdv A outer s H vs Q E hr h => ?_)
  · obtain ⟨v, rfl, _⟩ := h
    rfl
  · refine ⟨_, (pss_one (ps_ret (pe_and (pe_callB call_isi rfl T.n_isinstance (by decide +kernel) (pa_cons (pv 0) (pa_cons (pe_bltn (v := .ty "tuple") rfl T.n_tuple (by decide +kernel) rfl) pa_nil))) (pe_and (pe_cmpR op_eq (pe_callB cn_len rfl T.n_len (by decide +kernel) (pa_cons (pv 0) pa_nil)) pe_int (nomark _)) (pe_one (pe_callB (cr_all rfl) rfl T.n_all (by decide +kernel) (pa_cons (pe_lc (own := [("part", 1)]) (g := gName 1) rfl sc_is_corner.nd (pi_tup (pv 0)) (blkOk_by (N := ["thing", "part"]) (sc := (defScope s_is_corner)) (by decide +kernel)) (fun _ _ _ _ _ => pg_name (i := 1) sc_is_corner.nd rfl (Or.inl rfl)) (fun _ _ _ _ _ => pts_nil) (fun _ _ _ _ _ => (pe_h (E := fun _ => E0) h_is_integral hr pa0 (pa_cons (pv 1) pa_nil)))) pa_nil))))))), ?_⟩
    try simp only [cxOf]
    obtain ⟨v, rfl, ⟨pl, nt, q⟩ | ⟨p, xs, rfl, ha, hl, hx, q⟩⟩ := h
    · obtain ⟨t, ty, _, _, k⟩ := pl.ty (K := Z.K)
      rw [nt] at k
      walk_at "W"
      refine w_isi ty k ?_
      walk_at "W"
      exact q
    · obtain ⟨t, ty, _, _, k⟩ := (Plain.tup p xs ha).ty (K := Z.K)
      rw [isTu_tup ha] at k
      walk_at "W"
      refine w_isi ty k ?_
      walk_at "W"
      refine w_lenT (SqT.of ha) ?_
      walk_at "W"
      rw [show decide (V.int ((xs.length : Nat) : Int) = V.int 4) = decide (xs.length = 4) from dec_len (k := 4)]
      cases e : decide (xs.length = 4)
      · walk_at "W"
        have q1 := q H (Same.refl _)
        unfold isCor at q1
        rw [e] at q1
        exact q1
      · walk_at "W"
        refine k_lcFlags (f := isI) ha hl (fun _ => rfl) (fun x H' hxm s N k => ?_) (fun D H' hD s e2 => ?_)
        · walk_at "W"
          exact ⟨x, rfl, thI_same (hx x hxm) s, k⟩
        · walk_at "W"
          refine w_all (SqL.of e2) ?_
          have q1 := q H' s
          unfold isCor at q1
          rw [e] at q1
          rw [show (xs.map isI).all id = xs.all isI from by rw [List.all_map]; rfl]
          exact q1
abbrev s_check_corner : Stmt := top 29
theorem sc_check_corner : FnScope ["corner"] ["corner"] (defScope s_check_corner) := ⟨rfl, rfl, rfl, by decide +kernel, rfl, by decide +kernel, by decide +kernel⟩

def sp_check_corner (Z : Zs) : Sp := fun vs H Q E =>
  ∃ v, vs = [v] ∧ ((∃ c, CorAt H v c) ∧ (∀ H', Same H H' → Q .non H') ∨ BadCor Z H v ∧ ErX Z.c_BadCorner "corner" v H E)
theorem ok_check_corner (T : Txt Z mg) (h_is_corner : Has P w Z.K mg base "is_corner" 2 ["thing"] (sp_is_corner Z)) (h_BadCorner : HasX P w Z.K mg base "BadCorner" Z.c_BadCorner 1 ["self", "corner"] (sp_BadCorner_init Z)) (D : AtF Z.K mg "check_corner" "check_corner" s_check_corner ["corner"]) : Has P w Z.K mg base "check_corner" 3 ["corner"] (sp_check_corner Z) := by
  refine D.ok sc_check_corner (fun vs H Q E h => ?_) (fun cdv A outer s H vs Q E hr h => ?_)
  · obtain ⟨v, rfl, _⟩ := h
    rfl
  · refine ⟨_, (pss_one (ps_if (pt_not (pt_val (pe_h (E := ED E) h_is_corner hr (paW (takes_of rfl rfl rfl rfl)) (pa_cons (pv 0) pa_nil)))) (pss_one (ps_raise rfl (takes_of rfl rfl rfl rfl) (pm_h T.x_BadCorner h_BadCorner hr (pa_cons (pv 0) pa_nil)))) pss_nil)), ?_⟩
    try simp only [cxOf]
    obtain ⟨v, rfl, ⟨⟨c, p, rfl, hp⟩, q⟩ | ⟨b, er⟩⟩ := h
    · walk_at "W"
      refine ⟨_, rfl, .inr ⟨p, _, rfl, hp, by simp, fun x hx => ?_, fun H' s => ?_⟩⟩
      · simp only [List.mem_cons, List.not_mem_nil, or_false] at hx
        rcases hx with rfl | rfl | rfl | rfl <;> exact (Plain.int _).thI
      · walk_at "W"
        exact q H' s
    · walk_at "W"
      rcases b with ⟨pl, nt⟩ | ⟨p, xs, rfl, hp, hl, hx, ic⟩
      · refine ⟨_, rfl, .inl ⟨pl, nt, ?_⟩⟩
        walk_at "W"
        exact k_mkO fun d H2 hd s4 e4 => er d H2 hd s4 e4
      · refine ⟨_, rfl, .inr ⟨p, xs, rfl, hp, hl, hx, fun H' s => ?_⟩⟩
        rw [ic]
        walk_at "W"
        exact k_mkO fun d H2 hd s4 e4 => er d H2 (s.free hd) (s.trans s4) e4
def C4.plus (c : C4) (k s : Int) : C4 := if k = 0 then ⟨c.a + s, c.b, c.c, c.d⟩ else if k = 1 then ⟨c.a, c.b + s, c.c, c.d⟩ else if k = 2 then ⟨c.a, c.b, c.c + s, c.d⟩ else ⟨c.a, c.b, c.c, c.d + s⟩
def stepC (c : C4) (d m : Int) : C4 := c.plus (d % 4) (if d < 4 then m else -m)
theorem dir_cases {d : Int} (h0 : 0 ≤ d) (h7 : d ≤ 7) : d = 0 ∨ d = 1 ∨ d = 2 ∨ d = 3 ∨ d = 4 ∨ d = 5 ∨ d = 6 ∨ d = 7 := by omega
abbrev s_step : Stmt := top 30
theorem sc_step : FnScope ["corner", "direction", "many", "parts", "at"] ["corner", "direction", "many"] (defScope s_step) := ⟨rfl, rfl, rfl, by decide +kernel, rfl, by decide +kernel, by decide +kernel⟩

def sp_step (Z : Zs) : Sp := fun vs H Q E =>
  ∃ v c d m, vs = [v, .int d, .int m] ∧ CorAt H v c ∧ 0 ≤ d ∧ d ≤ 7 ∧ ∀ v' H', Same H H' → CorAt H' v' (stepC c d m) → Q v' H'
theorem ok_step (T : Txt Z mg)  (D : AtF Z.K mg "step" "step" s_step ["corner", "direction", "many"]) : Has P w Z.K mg base "step" 1 ["corner", "direction", "many"] (sp_step Z) := by
  refine D.ok sc_step (fun vs H Q E h => ?_) (fun cdv A outer s H vs Q E hr h => ?_)
  · obtain ⟨v, c, d, m, rfl, _⟩ := h
    rfl
  · refine ⟨_, (pss_cons (ps_set (i := 3) sc_step.nd rfl (Or.inl rfl) (pe_callTy cn_list rfl T.n_list (by decide +kernel) (pa_cons (pv 0) pa_nil)))
      (pss_cons (ps_set (i := 4) sc_step.nd rfl (Or.inl rfl) (pe_op op_mod (pv 1) pe_int))
      (pss_cons (ps_if (pt_cmpR op_lt (pv 1) pe_int (nomark _)) (pss_one (ps_asg (pe_op op_add (pe_ix ix_seq (pv 3) (pv 4) (fun _ _ => rfl)) (pv 2)) (pg_sub (pv 3) (pv 4) set_list))) (pss_one (ps_asg (pe_op op_sub (pe_ix ix_seq (pv 3) (pv 4) (fun _ _ => rfl)) (pv 2)) (pg_sub (pv 3) (pv 4) set_list))))
      (pss_one (ps_ret (pe_callTy cn_tuple rfl T.n_tuple (by decide +kernel) (pa_cons (pv 3) pa_nil))))))), ?_⟩
    try simp only [cxOf]
    obtain ⟨v, c, d, m, rfl, ⟨p, rfl, hp⟩, h0, h7, q⟩ := h
    walk_at "W"
    refine w_listT (SqT.of hp) fun l H1 hl s1 e1 => ?_
    have fin : ∀ {x y z u : Int} {H2 : Hp}, SameX l H1 H2 → H2 l = some (.lst [.int x, .int y, .int z, .int u]) → (⟨x, y, z, u⟩ : C4) = stepC c d m → rTupOf Z.K [.ref l] H2 Q := fun {x y z u H2} s2 e2 e => by
      refine w_tupL e2 fun t H3 ht s3 e3 => ?_
      have S : Same H H3 := fun b o eb => s3 _ _ (s2 b o (ne_of_none eb hl) (s1 _ _ eb))
      refine q _ H3 S ?_
      rw [← e]
      exact ⟨t, rfl, e3⟩
    walk_at "W"
    rcases dir_cases h0 h7 with rfl | rfl | rfl | rfl | rfl | rfl | rfl | rfl
    all_goals
      walk_at "W"
      refine w_setL e1 rfl fun H2 s2 e2 => ?_
      walk_at "W"
      exact fin s2 e2 (by simp [stepC, C4.plus, Int.sub_eq_add_neg])
def turn1 (c : C4) : C4 := ⟨-c.d, c.a, c.b, c.c⟩
def turnC : Nat → C4 → C4
  | 0, c => c
  | n + 1, c => turn1 (turnC n c)
def mirC (c : C4) : C4 := ⟨c.a, -c.d, -c.c, -c.b⟩
def greC (c : C4) : C4 := ⟨c.a + c.b - c.d, c.b + c.a + c.c, c.c + c.b + c.d, c.d - c.a + c.c⟩
def lesC (c : C4) : C4 := ⟨c.b - c.d - c.a, c.a + c.c - c.b, c.b + c.d - c.c, c.c - c.a - c.d⟩
def spCor (Z : Zs) (f : C4 → C4) : Sp := fun vs H Q E => ∃ v, vs = [v] ∧ ((∃ c, CorAt H v c ∧ ∀ v' H', Same H H' → CorAt H' v' (f c) → Q v' H') ∨ BadCor Z H v ∧ ErX Z.c_BadCorner "corner" v H E)
/-- a corner told otherwise: as a list or a tuple -/
def Four (H : Hp) (p : Addr) (c : C4) : Prop := H p = some (.lst [.int c.a, .int c.b, .int c.c, .int c.d]) ∨ H p = some (.tup [.int c.a, .int c.b, .int c.c, .int c.d])
theorem Four.same {H H' : Hp} {p : Addr} {c : C4} (h : Four H p c) (s : Same H H') : Four H' p c := h.imp (s _ _) (s _ _)
theorem Four.ix {K : PySem.W.Frag} {H : Hp} {p : Addr} {c : C4} {i : Int} {v : V} {Q : VK} (h : Four H p c) (e : atI [V.int c.a, .int c.b, .int c.c, .int c.d] i = some v) (q : Q v H) : rIx K (.ref p) (.int i) H Q := by
  rcases h with h | h
  · exact w_ixL h e q
  · exact w_ixT h e q
theorem w_neSame {K : PySem.W.Frag} {H : Hp} {Q : VK} {x y : V} {c : C4} (h1 : CorAt H x c) (h2 : CorAt H y c) (q : Q (.bl false) H) : rNeD K x y H Q := by
  obtain ⟨p, rfl, e1⟩ := h1
  obtain ⟨p', rfl, e2⟩ := h2
  refine ⟨.tuple [.int c.a, .int c.b, .int c.c, .int c.d], .tuple [.int c.a, .int c.b, .int c.c, .int c.d], .tup (SqT.of e1) (.cons (.int _) (.cons (.int _) (.cons (.int _) (.cons (.int _) .nil)))), .tup (SqT.of e2) (.cons (.int _) (.cons (.int _) (.cons (.int _) (.cons (.int _) .nil)))), rfl, rfl, ?_⟩
  rw [SeqAt.eqv_refl _ rfl]
  exact q
theorem w_eqSame {K : PySem.W.Frag} {H : Hp} {Q : VK} {x y : V} {c : C4} (h1 : CorAt H x c) (h2 : CorAt H y c) (q : Q (.bl true) H) : rEqD K x y H Q := by
  obtain ⟨p, rfl, e1⟩ := h1
  obtain ⟨p', rfl, e2⟩ := h2
  refine ⟨.tuple [.int c.a, .int c.b, .int c.c, .int c.d], .tuple [.int c.a, .int c.b, .int c.c, .int c.d], .tup (SqT.of e1) (.cons (.int _) (.cons (.int _) (.cons (.int _) (.cons (.int _) .nil)))), .tup (SqT.of e2) (.cons (.int _) (.cons (.int _) (.cons (.int _) (.cons (.int _) .nil)))), rfl, rfl, ?_⟩
  rw [SeqAt.eqv_refl _ rfl]
  exact q
def conj (c : C4) : C4 := ⟨c.a, c.d, -c.c, c.b⟩
/-- a point of told parts: the place of c, each number's parts times a number -/
def LedAt (H : Hp) (u : Addr) (c : C4) (n : Nat) : Prop := ∃ p p' s s', H u = some (.tup [.ref p, .ref p']) ∧ T3 H p (2 * c.a * s) ((c.b - c.d) * s) (2 * s) ∧ T3 H p' (2 * c.c * s') ((c.b + c.d) * s') (2 * s') ∧ s ≠ 0 ∧ s' ≠ 0 ∧ Bw n s ∧ Bw n s'
theorem LedAt.same {H H' : Hp} {u : Addr} {c : C4} {n : Nat} (h : LedAt H u c n) (s : Same H H') : LedAt H' u c n := by
  obtain ⟨p, p', s1, s2, a, b, d, e⟩ := h
  exact ⟨p, p', s1, s2, s _ _ a, s _ _ b, s _ _ d, e⟩
theorem LedAt.mono {H : Hp} {u : Addr} {c : C4} {n m : Nat} (h : LedAt H u c n) (l : n ≤ m) : LedAt H u c m := by
  obtain ⟨p, p', s1, s2, a, b, d, e, f, g, k⟩ := h
  exact ⟨p, p', s1, s2, a, b, d, e, f, g.mono l, k.mono l⟩
theorem led_of {H : Hp} {u p p' : Addr} {c : C4} {n : Nat} {s s' t r b t' r' b' : Int} (h : H u = some (.tup [.ref p, .ref p'])) (h1 : T3 H p t r b) (h2 : T3 H p' t' r' b') (e1 : t = 2 * c.a * s) (e2 : r = (c.b - c.d) * s) (e3 : b = 2 * s) (e4 : t' = 2 * c.c * s') (e5 : r' = (c.b + c.d) * s') (e6 : b' = 2 * s')
    (n1 : s ≠ 0) (n2 : s' ≠ 0) (w1 : Bw n s) (w2 : Bw n s') : LedAt H u c n := by
  subst e1 e2 e3 e4 e5 e6
  exact ⟨p, p', s, s', h, h1, h2, n1, n2, w1, w2⟩
theorem led_one {H : Hp} {u p p' : Addr} {c : C4} {t r t' r' : Int} (h : H u = some (.tup [.ref p, .ref p'])) (h1 : T3 H p t r 2) (h2 : T3 H p' t' r' 2) (e1 : t = 2 * c.a) (e2 : r = c.b - c.d) (e4 : t' = 2 * c.c) (e5 : r' = c.b + c.d) : LedAt H u c 1 :=
  led_of h h1 h2 (s := 1) (s' := 1) (by omega) (by omega) (by omega) (by omega) (by omega) (by omega) (by decide) (by decide) Bw.one Bw.one

/-- the place of c, as the laws write it -/
def PlcAt (H : Hp) (u : Addr) (c : C4) : Prop := ∃ p p', H u = some (.tup [.ref p, .ref p']) ∧ T3 H p (2 * c.a) (c.b - c.d) 2 ∧ T3 H p' (2 * c.c) (c.b + c.d) 2
theorem PlcAt.same {H H' : Hp} {u : Addr} {c : C4} (h : PlcAt H u c) (s : Same H H') : PlcAt H' u c := by
  obtain ⟨p, p', a, b, d⟩ := h
  exact ⟨p, p', s _ _ a, s _ _ b, s _ _ d⟩
theorem PlcAt.led {H : Hp} {u : Addr} {c : C4} (h : PlcAt H u c) : LedAt H u c 1 := by
  obtain ⟨p, p', a, b, d⟩ := h
  exact led_one a b d rfl rfl rfl rfl
def C4.bw (n : Nat) (c : C4) : Prop := Bw n c.a ∧ Bw n c.b ∧ Bw n c.c ∧ Bw n c.d
theorem len4 {ns : List Int} (h : ns.length = 4) : ∃ a b c d, ns = [a, b, c, d] := by
  match ns, h with
  | [a, b, c, d], _ => exact ⟨a, b, c, d, rfl⟩
def unitC (d : Int) : C4 := stepC ⟨0, 0, 0, 0⟩ d 1
theorem unit_bw {d : Int} (h0 : 0 ≤ d) (h7 : d ≤ 7) : C4.bw 1 (unitC d) := by
  have z := Bw.zero
  have o := Bw.one
  have m : Bw 1 (-1) := Bw.one.neg
  rcases dir_cases h0 h7 with rfl | rfl | rfl | rfl | rfl | rfl | rfl | rfl
  · exact ⟨o, z, z, z⟩
  · exact ⟨z, o, z, z⟩
  · exact ⟨z, z, o, z⟩
  · exact ⟨z, z, z, o⟩
  · exact ⟨m, z, z, z⟩
  · exact ⟨z, m, z, z⟩
  · exact ⟨z, z, m, z⟩
  · exact ⟨z, z, z, m⟩
theorem unit_add {d : Int} (h0 : 0 ≤ d) (h7 : d ≤ 7) (c : C4) : (stepC c d 1).a = c.a + (unitC d).a ∧ (stepC c d 1).b = c.b + (unitC d).b ∧ (stepC c d 1).c = c.c + (unitC d).c ∧ (stepC c d 1).d = c.d + (unitC d).d := by
  rcases dir_cases h0 h7 with rfl | rfl | rfl | rfl | rfl | rfl | rfl | rfl <;> (simp [unitC, stepC, C4.plus])
theorem rd_same {H H' : Hp} {a : Addr} {o : HO} (s : Same H H') (h : Rd H a o) : Rd H' a o := by
  rcases h with h | ⟨x, h⟩
  · exact .inl (s _ _ h)
  · exact .inr ⟨x, s _ _ h⟩
theorem dp_same {K : PySem.W.Frag} {H H' : Hp} (s : Same H H') : (∀ {v : V} {d : PyData}, Dp K H v d → Dp K H' v d) := by
  intro v d h
  induction h using Dp.rec (motive_2 := fun vs ds _ => DpAll K H' vs ds) with
  | non => exact .non
  | bl b => exact .bl b
  | int i => exact .int i
  | str x => exact .str x
  | lst h _ ih => exact .lst (h.imp (rd_same s) id) ih
  | tup h _ ih => exact .tup (h.imp (rd_same s) id) ih
  | nil => exact .nil
  | cons _ _ a b => exact .cons a b
/-- what a corner spoilt is -/
structure Odd4 (Z : Zs) (H : Hp) (v : V) (d : PyData) : Prop where
  bad : BadCor Z H v
  dp : Dp Z.K H v d
  lay : d.canLay0 = true
  dep : d.depth ≤ 5
theorem odd_part {Z : Zs} {H : Hp} {x y z u : V} {p : Addr} {dx dy dz du : PyData} (h : H p = some (.tup [x, y, z, u])) (px : Plain H x) (py : Plain H y) (pz : Plain H z) (pu : Plain H u) (n : ([x, y, z, u].all isI) = false)
    (d1 : Dp Z.K H x dx) (d2 : Dp Z.K H y dy) (d3 : Dp Z.K H z dz) (d4 : Dp Z.K H u du) (l1 : dx.canLay0 = true) (l2 : dy.canLay0 = true) (l3 : dz.canLay0 = true) (l4 : du.canLay0 = true)
    (e1 : dx.depth ≤ 3) (e2 : dy.depth ≤ 3) (e3 : dz.depth ≤ 3) (e4 : du.depth ≤ 3) : Odd4 Z H (.ref p) (.tuple [dx, dy, dz, du]) := by
  refine ⟨.inr ⟨p, _, rfl, h, by simp, fun v hv => ?_, by unfold isCor; rw [n, Bool.and_false]⟩, .tup (SqT.of h) (.cons d1 (.cons d2 (.cons d3 (.cons d4 .nil)))), ?_, ?_⟩
  · simp only [List.mem_cons, List.not_mem_nil, or_false] at hv
    rcases hv with rfl | rfl | rfl | rfl
    · exact px.thI
    · exact py.thI
    · exact pz.thI
    · exact pu.thI
  · simp only [PyData.canLay0, PyData.canLayAll0, l1, l2, l3, l4, Bool.and_self, Bool.and_true]
  · simp only [PyData.depth, PyData.depthAll]
    omega
-- needs W10
local macro_rules | `(tactic| walk_at "s") => `(tactic| first | with_reducible refine L2.My.w_augS ?_ | with_reducible refine L2.My.w_isN ?_)
/-- a thing that is no point -/
def NoPt (Z : Zs) (H : Hp) (v : V) : Prop := (Plain H v ∧ isTu H v = false) ∨ (∃ p xs, v = .ref p ∧ H p = some (.tup xs) ∧ xs.length ≠ 2) ∨ ∃ p x y, v = .ref p ∧ H p = some (.tup [x, y]) ∧ Th Z.c_Root H x ∧ Th Z.c_Root H y ∧ (isN Z.c_Root H x && isN Z.c_Root H y) = false
theorem NoPt.same {Z : Zs} {H H' : Hp} {v : V} (h : NoPt Z H v) (s : Same H H') : NoPt Z H' v := by
  rcases h with ⟨pl, nt⟩ | ⟨p, xs, rfl, e, n⟩ | ⟨p, x, y, rfl, e, hx, hy, n⟩
  · exact .inl ⟨pl.same s, (isTu_same pl s).trans nt⟩
  · exact .inr (.inl ⟨p, xs, rfl, s _ _ e, n⟩)
  · exact .inr (.inr ⟨p, x, y, rfl, s _ _ e, hx.same s, hy.same s, by rw [hx.isN_same s, hy.isN_same s]; exact n⟩)
abbrev s_is_point : Stmt := top 24
theorem sc_is_point : FnScope ["thing"] ["thing"] (defScope s_is_point) := ⟨rfl, rfl, rfl, by decide +kernel, rfl, by decide +kernel, by decide +kernel⟩

def sp_is_point (Z : Zs) : Sp := fun vs H Q E =>
  ∃ v, vs = [v] ∧ (NoPt Z H v ∧ Q (.bl false) H ∨ ∃ p x y, v = .ref p ∧ H p = some (.tup [x, y]) ∧ (∃ t r b, NumAt Z.c_Root H x t r b) ∧ (∃ t r b, NumAt Z.c_Root H y t r b) ∧ Q (.bl true) H)
theorem ok_is_point (T : Txt Z mg) (h_is_number : Has P w Z.K mg base "is_number" 2 ["thing"] (sp_is_number Z)) (D : AtF Z.K mg "is_point" "is_point" s_is_point ["thing"]) : Has P w Z.K mg base "is_point" 3 ["thing"] (sp_is_point Z) := by
  refine D.ok sc_is_point (fun vs H Q E h => ?_) (fun cdv A outer s H vs Q E hr h => ?_)
  · obtain ⟨v, rfl, _⟩ := h
    rfl
  · refine ⟨_, (pss_one (ps_ret (pe_and (pe_callB call_isi rfl T.n_isinstance (by decide +kernel) (pa_cons (pv 0) (pa_cons (pe_bltn (v := .ty "tuple") rfl T.n_tuple (by decide +kernel) rfl) pa_nil))) (pe_and (pe_cmpR op_eq (pe_callB cn_len rfl T.n_len (by decide +kernel) (pa_cons (pv 0) pa_nil)) pe_int (nomark _)) (pe_and (pe_h (E := ED E) h_is_number hr (paW (takes_of rfl rfl rfl rfl)) (pa_cons (pe_ix ix_seq (pv 0) pe_int (fun _ _ => rfl)) pa_nil)) (pe_one (pe_h (E := ED E) h_is_number hr (paW (takes_of rfl rfl rfl rfl)) (pa_cons (pe_ix ix_seq (pv 0) pe_int (fun _ _ => rfl)) pa_nil)))))))), ?_⟩
    try simp only [cxOf]
    obtain ⟨v, rfl, hh⟩ := h
    rcases hh with ⟨⟨pl, nt⟩ | ⟨p, xs, rfl, hp, ne⟩ | ⟨p, x, y, rfl, hp, hx, hy, n⟩, q⟩ | ⟨p, x, y, rfl, hp, ⟨t, r, b, hx⟩, ⟨t', r', b', hy⟩, q⟩
    · obtain ⟨ty, hty, _, _, k⟩ := pl.ty (K := Z.K)
      rw [nt] at k
      walk_at "W"
      refine w_isi hty k ?_
      walk_at "W"
      exact q
    · obtain ⟨ty, hty, _, _, k⟩ := (Plain.tup p _ hp).ty (K := Z.K)
      rw [isTu_tup hp] at k
      walk_at "W"
      refine w_isi hty k ?_
      walk_at "W"
      refine w_lenT (SqT.of hp) ?_
      walk_at "W"
      rw [show decide (V.int ((xs.length : Nat) : Int) = V.int 2) = false from (dec_len (k := 2)).trans (decide_eq_false ne)]
      walk_at "W"
      exact q
    · obtain ⟨ty, hty, _, _, k⟩ := (Plain.tup p _ hp).ty (K := Z.K)
      rw [isTu_tup hp] at k
      walk_at "W"
      refine w_isi hty k ?_
      walk_at "W"
      refine w_lenT (SqT.of hp) ?_
      walk_at "W"
      refine ⟨x, rfl, hx, ?_⟩
      walk_at "W"
      cases e : isN Z.c_Root H x
      · walk_at "W"
        exact q
      · walk_at "W"
        refine ⟨y, rfl, hy, ?_⟩
        rw [e, Bool.true_and] at n
        rw [n]
        walk_at "W"
        exact q
    · obtain ⟨ty, hty, _, _, k⟩ := (Plain.tup p _ hp).ty (K := Z.K)
      rw [isTu_tup hp] at k
      walk_at "W"
      refine w_isi hty k ?_
      walk_at "W"
      refine w_lenT (SqT.of hp) ?_
      walk_at "W"
      refine ⟨x, rfl, hx.th, ?_⟩
      rw [hx.isN]
      walk_at "W"
      refine ⟨y, rfl, hy.th, ?_⟩
      rw [hy.isN]
      walk_at "W"
      exact q
abbrev s_as_roots : Stmt := top 25
theorem sc_as_roots : FnScope ["point"] ["point"] (defScope s_as_roots) := ⟨rfl, rfl, rfl, by decide +kernel, rfl, by decide +kernel, by decide +kernel⟩

def sp_as_roots (Z : Zs) : Sp := fun vs H Q E =>
  ∃ p x y t r b t' r' b', vs = [.ref p] ∧ H p = some (.tup [x, y]) ∧ NumAt Z.c_Root H x t r b ∧ NumAt Z.c_Root H y t' r' b' ∧ ∀ u vx vy H', Same H H' → H' u = some (.tup [vx, vy]) → RootAt Z.c_Root H' vx t r b → RootAt Z.c_Root H' vy t' r' b' → Q (.ref u) H'
theorem ok_as_roots (T : Txt Z mg) (h_as_root : Has P w Z.K mg base "as_root" 5 ["number"] (sp_as_root Z)) (D : AtF Z.K mg "as_roots" "as_roots" s_as_roots ["point"]) : Has P w Z.K mg base "as_roots" 6 ["point"] (sp_as_roots Z) := by
  refine D.ok sc_as_roots (fun vs H Q E h => ?_) (fun cdv A outer s H vs Q E hr h => ?_)
  · obtain ⟨p, x, y, t, r, b, t', r', b', rfl, _⟩ := h
    rfl
  · refine ⟨_, (pss_one (ps_ret (pe_tup (pa_cons (pe_h (E := ED E) h_as_root hr (paW (takes_of rfl rfl rfl rfl)) (pa_cons (pe_ix ix_seq (pv 0) pe_int (fun _ _ => rfl)) pa_nil)) (pa_cons (pe_h (E := ED E) h_as_root hr (paW (takes_of rfl rfl rfl rfl)) (pa_cons (pe_ix ix_seq (pv 0) pe_int (fun _ _ => rfl)) pa_nil)) pa_nil))))), ?_⟩
    try simp only [cxOf]
    obtain ⟨p, x, y, t, r, b, t', r', b', rfl, hp, hx, hy, q⟩ := h
    walk_at "W"
    refine ⟨x, t, r, b, rfl, hx, fun vx H1 s1 h1 => ?_⟩
    have hp1 := s1 _ _ hp
    walk_at "W"
    refine ⟨y, t', r', b', rfl, hy.same s1, fun vy H2 s2 h2 => ?_⟩
    walk_at "W"
    exact k_tup rfl fun u H3 hu s3 e3 => q u vx vy H3 (s1.trans (s2.trans s3)) e3 ((h1.same s2).same s3) (h2.same s3)
/-- a point of Roots, of told numbers -/
def PtLow (c : Addr) (H : Hp) (u : Addr) (t r b t' r' b' : Int) : Prop := ∃ x y, H u = some (.tup [x, y]) ∧ LowAt c H x t r b ∧ LowAt c H y t' r' b'
theorem PtLow.same {c : Addr} {H H' : Hp} {u : Addr} {t r b t' r' b' : Int} (h : PtLow c H u t r b t' r' b') (s : Same H H') : PtLow c H' u t r b t' r' b' := by
  obtain ⟨x, y, a, b, d⟩ := h
  exact ⟨x, y, s _ _ a, b.same s, d.same s⟩
def spPl (Z : Zs) (f : C4 → C4) : Sp := fun vs H Q E => ∃ v, vs = [v] ∧ ((∃ c, CorAt H v c ∧ ∀ u H', Same H H' → PtLow Z.c_Root H' u (2 * (f c).a) ((f c).b - (f c).d) 2 (2 * (f c).c) ((f c).b + (f c).d) 2 → Q (.ref u) H') ∨ BadCor Z H v ∧ ErX Z.c_BadCorner "corner" v H E)
theorem emod_iff {x b : Int} (hb : b ≠ 0) : x % b = 0 ↔ ∃ k, x = k * b := ⟨fun h => ⟨x / b, by have := Int.emod_add_mul_ediv x b; rw [h, Int.zero_add, Int.mul_comm] at this; exact this.symm⟩, fun ⟨k, e⟩ => by rw [e]; exact Int.mul_emod_left k b⟩
theorem ediv_of {x b k : Int} (hb : b ≠ 0) (h : x = k * b) : x / b = k := by rw [h]; exact Int.mul_ediv_cancel k hb
/-- a whole number of ones and a whole number of halves of r -/
def Halves (t r b w h : Int) : Prop := t = w * b ∧ 2 * r = h * b
/-- a corner's place has these two numbers -/
def Fit (t r b t' r' b' : Int) (c : C4) : Prop := Halves t r b c.a (c.b - c.d) ∧ Halves t' r' b' c.c (c.b + c.d)
def spAt (Z : Zs) (f : C4 → C4) : Sp := fun vs H Q E => ∃ v, vs = [v] ∧ (NoPt Z H v ∧ ErX Z.c_BadPoint "point" v H E ∨ ∃ p x y t r b t' r' b', v = .ref p ∧ H p = some (.tup [x, y]) ∧ NumAt Z.c_Root H x t r b ∧ NumAt Z.c_Root H y t' r' b' ∧ 0 < b ∧ 0 < b' ∧ Bw 1000 b ∧ Bw 1000 b' ∧
  (∀ H', Same H H' → (∀ c, ¬ Fit t r b t' r' b' (f c)) → Q .non H') ∧ ∀ c v H', Same H H' → Fit t r b t' r' b' (f c) → CorAt H' v c → Q v H')
-- needs W11
local macro_rules | `(tactic| walk_at "s") => `(tactic| first | with_reducible refine L2.My.w_forEn ?_ | with_reducible refine L2.My.w_lcZT ?_ | with_reducible refine L2.My.w_notB ?_)
theorem vint0 {x y : Int} : (V.int x = V.int y) ↔ x = y := ⟨fun h => by injection h, fun h => by rw [h]⟩
/-- a number barred by an even direction, by an odd one -/
def EvB (t r b : Int) : Prop := (∃ k, 2 * t = (2 * k + 1) * b) ∧ ∃ m, 2 * r = m * b
def OdB (t r b : Int) : Prop := (∃ m, t = m * b) ∧ ∃ k, 2 * r = (2 * k + 1) * b
theorem ev_scale {t r b s : Int} (hs : s ≠ 0) : EvB (t * s) (r * s) (b * s) ↔ EvB t r b := by
  constructor
  · rintro ⟨⟨k, h1⟩, m, h2⟩
    exact ⟨⟨k, Int.eq_of_mul_eq_mul_right hs (by rw [Int.mul_assoc, h1, Int.mul_assoc])⟩, m, Int.eq_of_mul_eq_mul_right hs (by rw [Int.mul_assoc, h2, Int.mul_assoc])⟩
  · rintro ⟨⟨k, h1⟩, m, h2⟩
    exact ⟨⟨k, by rw [← Int.mul_assoc, h1, Int.mul_assoc]⟩, m, by rw [← Int.mul_assoc, h2, Int.mul_assoc]⟩
theorem od_scale {t r b s : Int} (hs : s ≠ 0) : OdB (t * s) (r * s) (b * s) ↔ OdB t r b := by
  constructor
  · rintro ⟨⟨m, h1⟩, k, h2⟩
    exact ⟨⟨m, Int.eq_of_mul_eq_mul_right hs (by rw [h1, Int.mul_assoc])⟩, k, Int.eq_of_mul_eq_mul_right hs (by rw [Int.mul_assoc, h2, Int.mul_assoc])⟩
  · rintro ⟨⟨m, h1⟩, k, h2⟩
    exact ⟨⟨m, by rw [h1, Int.mul_assoc]⟩, k, by rw [← Int.mul_assoc, h2, Int.mul_assoc]⟩
theorem ev_low {t r b : Int} (hb : b ≠ 0) : EvB (lowT t r b) (lowR t r b) (lowB t r b) ↔ EvB t r b := by
  obtain ⟨s, hs, e1, e2, e3⟩ := (low_is (t := t) (r := r) hb).s
  have k := ev_scale (t := lowT t r b) (r := lowR t r b) (b := lowB t r b) hs
  rw [← e1, ← e2, ← e3] at k
  exact k.symm
theorem od_low {t r b : Int} (hb : b ≠ 0) : OdB (lowT t r b) (lowR t r b) (lowB t r b) ↔ OdB t r b := by
  obtain ⟨s, hs, e1, e2, e3⟩ := (low_is (t := t) (r := r) hb).s
  have k := od_scale (t := lowT t r b) (r := lowR t r b) (b := lowB t r b) hs
  rw [← e1, ← e2, ← e3] at k
  exact k.symm
noncomputable def decB (p : Prop) : Bool := @decide p (Classical.propDecidable p)
theorem decB_t {p : Prop} (h : p) : decB p = true := @decide_eq_true p (Classical.propDecidable p) h
theorem decB_f {p : Prop} (h : ¬ p) : decB p = false := @decide_eq_false p (Classical.propDecidable p) h
theorem half_iff {t b : Int} (hb : b ≠ 0) : (2 * t - b) % (2 * b) = 0 ↔ ∃ k, 2 * t = (2 * k + 1) * b := by
  rw [emod_iff (by omega)]
  constructor
  · rintro ⟨k, h⟩
    exact ⟨k, by rw [Int.add_mul, Int.one_mul]; have : k * (2 * b) = 2 * k * b := by rw [← Int.mul_assoc, Int.mul_comm k 2]
                 omega⟩
  · rintro ⟨k, h⟩
    exact ⟨k, by rw [Int.add_mul, Int.one_mul] at h; have : k * (2 * b) = 2 * k * b := by rw [← Int.mul_assoc, Int.mul_comm k 2]
                 omega⟩
abbrev s_check_point : Stmt := top 41
theorem sc_check_point : FnScope ["point"] ["point"] (defScope s_check_point) := ⟨rfl, rfl, rfl, by decide +kernel, rfl, by decide +kernel, by decide +kernel⟩

def sp_check_point (Z : Zs) : Sp := fun vs H Q E =>
  ∃ v, vs = [v] ∧ (NoPt Z H v ∧ ErX Z.c_BadPoint "point" v H E ∨ ∃ p x y, v = .ref p ∧ H p = some (.tup [x, y]) ∧ (∃ t r b, NumAt Z.c_Root H x t r b) ∧ (∃ t r b, NumAt Z.c_Root H y t r b) ∧ Q .non H)
theorem ok_check_point (T : Txt Z mg) (h_is_point : Has P w Z.K mg base "is_point" 3 ["thing"] (sp_is_point Z)) (h_BadPoint : HasX P w Z.K mg base "BadPoint" Z.c_BadPoint 1 ["self", "point"] (sp_BadPoint_init Z)) (D : AtF Z.K mg "check_point" "check_point" s_check_point ["point"]) : Has P w Z.K mg base "check_point" 4 ["point"] (sp_check_point Z) := by
  refine D.ok sc_check_point (fun vs H Q E h => ?_) (fun cdv A outer s H vs Q E hr h => ?_)
  · obtain ⟨v, rfl, _⟩ := h
    rfl
  · refine ⟨_, (pss_one (ps_if (pt_not (pt_val (pe_h (E := ED E) h_is_point hr (paW (takes_of rfl rfl rfl rfl)) (pa_cons (pv 0) pa_nil)))) (pss_one (ps_raise rfl (takes_of rfl rfl rfl rfl) (pm_h T.x_BadPoint h_BadPoint hr (pa_cons (pv 0) pa_nil)))) pss_nil)), ?_⟩
    try simp only [cxOf]
    obtain ⟨v, rfl, ⟨n, er⟩ | ⟨p, x, y, rfl, hp, hx, hy, q⟩⟩ := h
    · walk_at "W"
      refine ⟨_, rfl, .inl ⟨n, ?_⟩⟩
      walk_at "W"
      exact k_mkO fun d H2 hd s4 e4 => er d H2 hd s4 e4
    walk_at "W"
    refine ⟨_, rfl, .inr ⟨p, x, y, rfl, hp, hx, hy, ?_⟩⟩
    walk_at "W"
    exact q
abbrev s_is_half : Stmt := top 42
theorem sc_is_half : FnScope ["top", "bottom"] ["top", "bottom"] (defScope s_is_half) := ⟨rfl, rfl, rfl, by decide +kernel, rfl, by decide +kernel, by decide +kernel⟩

def sp_is_half (Z : Zs) : Sp := fun vs H Q E =>
  ∃ t b : Int, vs = [.int t, .int b] ∧ 0 < b ∧ Q (.bl (decB (∃ k, 2 * t = (2 * k + 1) * b))) H
theorem ok_is_half (T : Txt Z mg)  (D : AtF Z.K mg "is_half" "is_half" s_is_half ["top", "bottom"]) : Has P w Z.K mg base "is_half" 1 ["top", "bottom"] (sp_is_half Z) := by
  refine D.ok sc_is_half (fun vs H Q E h => ?_) (fun cdv A outer s H vs Q E hr h => ?_)
  · obtain ⟨t, b, rfl, _⟩ := h
    rfl
  · refine ⟨_, (pss_one (ps_ret (pe_cmpR op_eq (pe_op op_mod (pe_op op_sub (pe_op op_mulS pe_int (pv 0)) (pv 1)) (pe_op op_mulS pe_int (pv 1))) pe_int (nomark _)))), ?_⟩
    try simp only [cxOf]
    obtain ⟨t, b, rfl, pb, q⟩ := h
    have hb : b ≠ 0 := by omega
    walk_at "W"
    by_cases c : ∃ k, 2 * t = (2 * k + 1) * b
    · rw [decB_t c] at q
      rw [decide_eq_true (vint0.mpr ((half_iff hb).mpr c))]
      exact q
    · rw [decB_f c] at q
      rw [decide_eq_false (fun z => c ((half_iff hb).mp (vint0.mp z)))]
      exact q
abbrev s_bars_evenly : Stmt := top 43
theorem sc_bars_evenly : FnScope ["number"] ["number"] (defScope s_bars_evenly) := ⟨rfl, rfl, rfl, by decide +kernel, rfl, by decide +kernel, by decide +kernel⟩

def sp_bars_evenly (Z : Zs) : Sp := fun vs H Q E =>
  ∃ v t r b, vs = [v] ∧ RootAt Z.c_Root H v t r b ∧ 0 < b ∧ Q (.bl (decB (EvB t r b))) H
theorem ok_bars_evenly (T : Txt Z mg) (h_is_half : Has P w Z.K mg base "is_half" 1 ["top", "bottom"] (sp_is_half Z)) (D : AtF Z.K mg "bars_evenly" "bars_evenly" s_bars_evenly ["number"]) : Has P w Z.K mg base "bars_evenly" 2 ["number"] (sp_bars_evenly Z) := by
  refine D.ok sc_bars_evenly (fun vs H Q E h => ?_) (fun cdv A outer s H vs Q E hr h => ?_)
  · obtain ⟨v, t, r, b, rfl, _⟩ := h
    rfl
  · refine ⟨_, (pss_one (ps_ret (pe_and (pe_h (E := ED E) h_is_half hr (paW (takes_of rfl rfl rfl rfl)) (pa_cons (pe_fld (pv 0) rfl) (pa_cons (pe_fld (pv 0) rfl) pa_nil))) (pe_one (pe_cmpR op_eq (pe_op op_mod (pe_op op_mulS pe_int (pe_fld (pv 0) rfl)) (pe_fld (pv 0) rfl)) pe_int (nomark _)))))), ?_⟩
    try simp only [cxOf]
    obtain ⟨v, t, r, b, rfl, ⟨a, dx, rfl, ha⟩, pb, q⟩ := h
    have hb : b ≠ 0 := by omega
    repeat (first | walk_at "s" | refine w_fld ha T.c_Root T.nf_top (rf_top _ _ _) ?_ | refine w_fld ha T.c_Root T.nf_root (rf_root _ _ _) ?_ | refine w_fld ha T.c_Root T.nf_bottom (rf_bottom _ _ _) ?_)
    refine ⟨t, b, rfl, pb, ?_⟩
    by_cases c : ∃ k, 2 * t = (2 * k + 1) * b
    · rw [decB_t c]
      repeat (first | walk_at "s" | refine w_fld ha T.c_Root T.nf_top (rf_top _ _ _) ?_ | refine w_fld ha T.c_Root T.nf_root (rf_root _ _ _) ?_ | refine w_fld ha T.c_Root T.nf_bottom (rf_bottom _ _ _) ?_)
      by_cases c2 : ∃ m, 2 * r = m * b
      · rw [decB_t ⟨c, c2⟩] at q
        rw [decide_eq_true (vint0.mpr ((emod_iff hb).mpr c2))]
        exact q
      · rw [decB_f (fun z => c2 z.2)] at q
        rw [decide_eq_false (fun z => c2 ((emod_iff hb).mp (vint0.mp z)))]
        exact q
    · rw [decB_f c]
      walk_at "W"
      rw [decB_f (fun z => c z.1)] at q
      exact q
abbrev s_bars_oddly : Stmt := top 44
theorem sc_bars_oddly : FnScope ["number"] ["number"] (defScope s_bars_oddly) := ⟨rfl, rfl, rfl, by decide +kernel, rfl, by decide +kernel, by decide +kernel⟩

def sp_bars_oddly (Z : Zs) : Sp := fun vs H Q E =>
  ∃ v t r b, vs = [v] ∧ RootAt Z.c_Root H v t r b ∧ 0 < b ∧ Q (.bl (decB (OdB t r b))) H
theorem ok_bars_oddly (T : Txt Z mg) (h_is_half : Has P w Z.K mg base "is_half" 1 ["top", "bottom"] (sp_is_half Z)) (D : AtF Z.K mg "bars_oddly" "bars_oddly" s_bars_oddly ["number"]) : Has P w Z.K mg base "bars_oddly" 2 ["number"] (sp_bars_oddly Z) := by
  refine D.ok sc_bars_oddly (fun vs H Q E h => ?_) (fun cdv A outer s H vs Q E hr h => ?_)
  · obtain ⟨v, t, r, b, rfl, _⟩ := h
    rfl
  · refine ⟨_, (pss_one (ps_ret (pe_and (pe_cmpR op_eq (pe_op op_mod (pe_fld (pv 0) rfl) (pe_fld (pv 0) rfl)) pe_int (nomark _)) (pe_one (pe_h (E := ED E) h_is_half hr (paW (takes_of rfl rfl rfl rfl)) (pa_cons (pe_fld (pv 0) rfl) (pa_cons (pe_fld (pv 0) rfl) pa_nil))))))), ?_⟩
    try simp only [cxOf]
    obtain ⟨v, t, r, b, rfl, ⟨a, dx, rfl, ha⟩, pb, q⟩ := h
    have hb : b ≠ 0 := by omega
    repeat (first | walk_at "s" | refine w_fld ha T.c_Root T.nf_top (rf_top _ _ _) ?_ | refine w_fld ha T.c_Root T.nf_root (rf_root _ _ _) ?_ | refine w_fld ha T.c_Root T.nf_bottom (rf_bottom _ _ _) ?_)
    by_cases c : ∃ m, t = m * b
    · rw [decide_eq_true (vint0.mpr ((emod_iff hb).mpr c))]
      repeat (first | walk_at "s" | refine w_fld ha T.c_Root T.nf_top (rf_top _ _ _) ?_ | refine w_fld ha T.c_Root T.nf_root (rf_root _ _ _) ?_ | refine w_fld ha T.c_Root T.nf_bottom (rf_bottom _ _ _) ?_)
      refine ⟨r, b, rfl, pb, ?_⟩
      by_cases c2 : ∃ k, 2 * r = (2 * k + 1) * b
      · rw [decB_t c2]
        rw [decB_t ⟨c, c2⟩] at q
        exact q
      · rw [decB_f c2]
        rw [decB_f (fun z => c2 z.2)] at q
        exact q
    · rw [decide_eq_false (fun z => c ((emod_iff hb).mp (vint0.mp z)))]
      walk_at "W"
      rw [decB_f (fun z => c z.1)] at q
      exact q
/-- the least direction that bars a shift, as the program tells it -/
noncomputable def barV (t r b t' r' b' : Int) : V :=
  if decB (EvB t' r' b') = true then .int 0 else if decB (OdB (plus.t t r b t' r' b') (plus.r t r b t' r' b') (plus.b t r b t' r' b')) = true then .int 1 else if decB (EvB t r b) = true then .int 2 else if decB (OdB (minus.t t' r' b' t r b) (minus.r t' r' b' t r b) (minus.b t' r' b' t r b)) = true then .int 3 else .non
abbrev s_barred : Stmt := top 45
theorem sc_barred : FnScope ["shift", "x", "y", "found", "direction"] ["shift"] (defScope s_barred) := ⟨rfl, rfl, rfl, by decide +kernel, rfl, by decide +kernel, by decide +kernel⟩

def sp_barred (Z : Zs) : Sp := fun vs H Q E =>
  ∃ v, vs = [v] ∧ (NoPt Z H v ∧ ErX Z.c_BadPoint "point" v H E ∨ ∃ p x y t r b t' r' b', v = .ref p ∧ H p = some (.tup [x, y]) ∧ NumAt Z.c_Root H x t r b ∧ NumAt Z.c_Root H y t' r' b' ∧ Sm t r b ∧ Sm t' r' b' ∧ ∀ H', Same H H' → Q (barV t r b t' r' b') H')
theorem ok_barred (T : Txt Z mg) (h_bars_oddly : Has P w Z.K mg base "bars_oddly" 2 ["number"] (sp_bars_oddly Z)) (h_bars_evenly : Has P w Z.K mg base "bars_evenly" 2 ["number"] (sp_bars_evenly Z)) (h_as_roots : Has P w Z.K mg base "as_roots" 6 ["point"] (sp_as_roots Z)) (h_check_point : Has P w Z.K mg base "check_point" 4 ["point"] (sp_check_point Z)) (h_Root_add : HasM P w Z.K mg base Z.c_Root "__add__" 6 ["self", "other"] (sp_Root_add Z)) (h_Root_radd : HasM P w Z.K mg base Z.c_Root "__radd__" 7 ["self", "other"] (sp_Root_radd Z)) (h_Root_sub : HasM P w Z.K mg base Z.c_Root "__sub__" 6 ["self", "other"] (sp_Root_sub Z)) (h_Root_rsub : HasM P w Z.K mg base Z.c_Root "__rsub__" 7 ["self", "other"] (sp_Root_rsub Z)) (D : AtF Z.K mg "barred" "barred" s_barred ["shift"]) : Has P w Z.K mg base "barred" 8 ["shift"] (sp_barred Z) := by
  refine D.ok sc_barred (fun vs H Q E h => ?_) (fun cdv A outer s H vs Q E hr h => ?_)
  · obtain ⟨v, rfl, _⟩ := h
    rfl
  · refine ⟨_, (pss_cons (ps_expr (pe_h (E := ED E) h_check_point hr (paW (takes_of rfl rfl rfl rfl)) (pa_cons (pv 0) pa_nil)))
      (pss_cons (ps_asg (pe_h (E := ED E) h_as_roots hr (paW (takes_of rfl rfl rfl rfl)) (pa_cons (pv 0) pa_nil)) (pg_tup rfl (pgs_cons (pg_name (i := 1) sc_barred.nd rfl (Or.inl rfl)) (pgs_cons (pg_name (i := 2) sc_barred.nd rfl (Or.inl rfl)) pgs_nil))))
      (pss_cons (ps_set (i := 3) sc_barred.nd rfl (Or.inl rfl) (pe_tup (pa_cons (pe_h (E := ED E) h_bars_evenly hr (paW (takes_of rfl rfl rfl rfl)) (pa_cons (pv 2) pa_nil)) (pa_cons (pe_h (E := ED E) h_bars_oddly hr (paW (takes_of rfl rfl rfl rfl)) (pa_cons (pe_op (op_addB T.ow h_Root_add h_Root_radd hr passL) (pv 1) (pv 2)) pa_nil)) (pa_cons (pe_h (E := ED E) h_bars_evenly hr (paW (takes_of rfl rfl rfl rfl)) (pa_cons (pv 1) pa_nil)) (pa_cons (pe_h (E := ED E) h_bars_oddly hr (paW (takes_of rfl rfl rfl rfl)) (pa_cons (pe_op (op_subB T.ow h_Root_sub h_Root_rsub hr passL) (pv 2) (pv 1)) pa_nil)) pa_nil))))))
      (pss_cons (ps_for (passes_of rfl) rfl (pi_range1 rfl T.n_range (pa_cons pe_int pa_nil)) (pg_name (i := 4) sc_barred.nd rfl (Or.inl rfl)) (pss_one (ps_if (pt_truth (pe_ix ix_seq (pv 3) (pv 4) (fun _ _ => rfl)) (by intro _; rfl)) (pss_one (ps_ret (pv 4))) pss_nil)))
      (pss_one (ps_ret pe_non)))))), ?_⟩
    try simp only [cxOf]
    obtain ⟨v, rfl, ⟨n, er⟩ | ⟨p, x, y, t, r, b, t', r', b', rfl, hp, hx, hy, sm, sm', q⟩⟩ := h
    · walk_at "W"
      exact ⟨_, rfl, .inl ⟨n, er⟩⟩
    have pb := sm.lw.pos
    have pb' := sm'.lw.pos
    walk_at "W"
    refine ⟨_, rfl, .inr ⟨p, x, y, rfl, hp, ⟨_, _, _, hx⟩, ⟨_, _, _, hy⟩, ?_⟩⟩
    walk_at "W"
    refine ⟨p, x, y, t, r, b, t', r', b', rfl, hp, hx, hy, fun u vx vy H1 s1 e1 h1 h2 => ?_⟩
    refine k_tupl2 e1 rfl rfl ?_
    walk_at "W"
    refine ⟨vy, t', r', b', rfl, h2, pb', ?_⟩
    walk_at "W"
    refine k_ownB rfl rfl (.inl h1) (.inl h2) (.inl h1) sm sm' fun w1 H2 s2 g1 => ?_
    walk_at "W"
    refine ⟨w1, _, _, _, rfl, g1, (low_is (Int.mul_ne_zero sm.hn sm'.hn)).pos, ?_⟩
    walk_at "W"
    refine ⟨vx, t, r, b, rfl, h1.same s2, pb, ?_⟩
    walk_at "W"
    refine k_ownB rfl rfl (.inl (h2.same s2)) (.inl (h1.same s2)) (.inl (h2.same s2)) sm' sm fun w2 H3 s3 g2 => ?_
    walk_at "W"
    refine ⟨w2, _, _, _, rfl, g2, (low_is (Int.mul_ne_zero sm'.hn sm.hn)).pos, ?_⟩
    rw [show decB (OdB (lowT (plus.t t r b t' r' b') (plus.r t r b t' r' b') (plus.b t r b t' r' b')) (lowR (plus.t t r b t' r' b') (plus.r t r b t' r' b') (plus.b t r b t' r' b')) (lowB (plus.t t r b t' r' b') (plus.r t r b t' r' b') (plus.b t r b t' r' b'))) = decB (OdB (plus.t t r b t' r' b') (plus.r t r b t' r' b') (plus.b t r b t' r' b')) from congrArg decB (propext (od_low (Int.mul_ne_zero sm.hn sm'.hn))),
      show decB (OdB (lowT (minus.t t' r' b' t r b) (minus.r t' r' b' t r b) (minus.b t' r' b' t r b)) (lowR (minus.t t' r' b' t r b) (minus.r t' r' b' t r b) (minus.b t' r' b' t r b)) (lowB (minus.t t' r' b' t r b) (minus.r t' r' b' t r b) (minus.b t' r' b' t r b))) = decB (OdB (minus.t t' r' b' t r b) (minus.r t' r' b' t r b) (minus.b t' r' b' t r b)) from congrArg decB (propext (od_low (Int.mul_ne_zero sm'.hn sm.hn)))]
    unfold barV at q
    generalize decB (EvB t' r' b') = f0 at *
    generalize decB (OdB (plus.t t r b t' r' b') (plus.r t r b t' r' b') (plus.b t r b t' r' b')) = f1 at *
    generalize decB (EvB t r b) = f2 at *
    generalize decB (OdB (minus.t t' r' b' t r b) (minus.r t' r' b' t r b) (minus.b t' r' b' t r b)) = f3 at *
    walk_at "W"
    refine k_tup rfl fun uf H4 huf s4 e4 => ?_
    have S := s1.trans (s2.trans (s3.trans s4))
    walk_at "W"
    refine k_forR (fun i σ' H' => H' = H4 ∧ (∃ z, σ' = [some (.ref p), some vx, some vy, some (.ref uf), z]) ∧ (0 < i → f0 = false) ∧ (1 < i → f1 = false) ∧ (2 < i → f2 = false) ∧ (3 < i → f3 = false)) (by decide) (by decide) ⟨rfl, ⟨none, rfl⟩, by omega, by omega, by omega, by omega⟩ ?_ ?_
    · rintro i σ' H' hi ⟨rfl, ⟨z, rfl⟩, c0, c1, c2, c3⟩
      have hi4 : i = 0 ∨ i = 1 ∨ i = 2 ∨ i = 3 := by have : i < 4 := hi; omega
      rcases hi4 with rfl | rfl | rfl | rfl
      · walk_at "W"
        refine ⟨_, rfl, ?_⟩
        cases f0
        · walk_at "W"
          exact ⟨rfl, ⟨_, rfl⟩, fun _ => rfl, by omega, by omega, by omega⟩
        · walk_at "W"
          exact q _ S
      · walk_at "W"
        refine ⟨_, rfl, ?_⟩
        have c0 := c0 (by omega)
        subst c0
        cases f1
        · walk_at "W"
          exact ⟨rfl, ⟨_, rfl⟩, fun _ => rfl, fun _ => rfl, by omega, by omega⟩
        · walk_at "W"
          exact q _ S
      · walk_at "W"
        refine ⟨_, rfl, ?_⟩
        have c0 := c0 (by omega)
        have c1 := c1 (by omega)
        subst c0 c1
        cases f2
        · walk_at "W"
          exact ⟨rfl, ⟨_, rfl⟩, fun _ => rfl, fun _ => rfl, fun _ => rfl, by omega⟩
        · walk_at "W"
          exact q _ S
      · walk_at "W"
        refine ⟨_, rfl, ?_⟩
        have c0 := c0 (by omega)
        have c1 := c1 (by omega)
        have c2 := c2 (by omega)
        subst c0 c1 c2
        cases f3
        · walk_at "W"
          exact ⟨rfl, ⟨_, rfl⟩, fun _ => rfl, fun _ => rfl, fun _ => rfl, fun _ => rfl⟩
        · walk_at "W"
          exact q _ S
    · rintro σ' H' ⟨rfl, ⟨z, rfl⟩, c0, c1, c2, c3⟩
      have c0 := c0 (by decide)
      have c1 := c1 (by decide)
      have c2 := c2 (by decide)
      have c3 := c3 (by decide)
      subst c0 c1 c2 c3
      walk_at "W"
      exact q _ S
/-- the shift over a common bottom -/
structure Gau (B X1 X2 Y1 Y2 t r b t' r' b' : Int) : Prop where
  pB : 0 < B
  wB : Bw 130 B
  w1 : Bw 600 X1
  w2 : Bw 600 X2
  w3 : Bw 600 Y1
  w4 : Bw 600 Y2
  e1 : X1 * b = t * B
  e2 : X2 * b = r * B
  e3 : Y1 * b' = t' * B
  e4 : Y2 * b' = r' * B
abbrev s_gauge_of : Stmt := top 37
theorem sc_gauge_of : FnScope ["shift", "x", "y", "bottom", "by", "up"] ["shift"] (defScope s_gauge_of) := ⟨rfl, rfl, rfl, by decide +kernel, rfl, by decide +kernel, by decide +kernel⟩

def sp_gauge_of (Z : Zs) : Sp := fun vs H Q E =>
  ∃ p vx vy t r b t' r' b', vs = [.ref p] ∧ H p = some (.tup [vx, vy]) ∧ RootAt Z.c_Root H vx t r b ∧ RootAt Z.c_Root H vy t' r' b' ∧ 0 < b ∧ 0 < b' ∧ Bw 64 b ∧ Bw 64 b' ∧ Bw 400 t ∧ Bw 400 r ∧ Bw 400 t' ∧ Bw 400 r' ∧
    ∀ u B X1 X2 Y1 Y2 H', Same H H' → H' u = some (.tup [.int B, .int X1, .int X2, .int Y1, .int Y2]) → Gau B X1 X2 Y1 Y2 t r b t' r' b' → Q (.ref u) H'
theorem ok_gauge_of (T : Txt Z mg)  (D : AtF Z.K mg "gauge_of" "gauge_of" s_gauge_of ["shift"]) : Has P w Z.K mg base "gauge_of" 1 ["shift"] (sp_gauge_of Z) := by
  refine D.ok sc_gauge_of (fun vs H Q E h => ?_) (fun cdv A outer s H vs Q E hr h => ?_)
  · obtain ⟨p, vx, vy, t, r, b, t', r', b', rfl, _⟩ := h
    rfl
  · refine ⟨_, (pss_cons (ps_asg (pv 0) (pg_tup rfl (pgs_cons (pg_name (i := 1) sc_gauge_of.nd rfl (Or.inl rfl)) (pgs_cons (pg_name (i := 2) sc_gauge_of.nd rfl (Or.inl rfl)) pgs_nil))))
      (pss_cons (ps_set (i := 3) sc_gauge_of.nd rfl (Or.inl rfl) (pe_callBfun cr_lcm rfl T.g_lcm (pa_cons (pe_fld (pv 1) rfl) (pa_cons (pe_fld (pv 2) rfl) pa_nil))))
      (pss_cons (ps_set (i := 4) sc_gauge_of.nd rfl (Or.inl rfl) (pe_op op_fdivW (pv 3) (pe_fld (pv 1) rfl)))
      (pss_cons (ps_set (i := 5) sc_gauge_of.nd rfl (Or.inl rfl) (pe_op op_fdivW (pv 3) (pe_fld (pv 2) rfl)))
      (pss_one (ps_ret (pe_tup (pa_cons (pv 3) (pa_cons (pe_op op_mulS (pe_fld (pv 1) rfl) (pv 4)) (pa_cons (pe_op op_mulS (pe_fld (pv 1) rfl) (pv 4)) (pa_cons (pe_op op_mulS (pe_fld (pv 2) rfl) (pv 5)) (pa_cons (pe_op op_mulS (pe_fld (pv 2) rfl) (pv 5)) pa_nil)))))))))))), ?_⟩
    try simp only [cxOf]
    obtain ⟨p, vx, vy, t, r, b, t', r', b', rfl, hp, ⟨a, dx, rfl, ha⟩, ⟨a', dx', rfl, ha'⟩, pb, pb', wb, wb', wt, wr, wt', wr', q⟩ := h
    have hdw : ∀ x : Int, CDivW x b := fun x => wide_div pb (wb.bd (by decide)) (by decide) (by decide)
    have hdw' : ∀ x : Int, CDivW x b' := fun x => wide_div pb' (wb'.bd (by decide)) (by decide) (by decide)
    walk_at "W"
    refine k_tupl2 hp rfl rfl ?_
    repeat (first | walk_at "s" | refine w_fld ha T.c_Root T.nf_bottom (rf_bottom _ _ _) ?_ | refine w_fld ha' T.c_Root T.nf_bottom (rf_bottom _ _ _) ?_)
    refine w_lcm wb wb' ?_
    obtain ⟨m, em⟩ : b.natAbs ∣ b.natAbs.lcm b'.natAbs := Nat.dvd_lcm_left _ _
    obtain ⟨m', em'⟩ : b'.natAbs ∣ b.natAbs.lcm b'.natAbs := Nat.dvd_lcm_right _ _
    have lpos : 0 < b.natAbs.lcm b'.natAbs := Nat.lcm_pos (by omega) (by omega)
    have lle : b.natAbs.lcm b'.natAbs ≤ b.natAbs * b'.natAbs := Nat.le_of_dvd (Nat.mul_pos (by omega) (by omega)) (Nat.lcm_dvd (Nat.dvd_mul_right _ _) (Nat.dvd_mul_left _ _))
    generalize b.natAbs.lcm b'.natAbs = L at *
    have eL : (L : Int) = (m : Int) * b := by
      have : (b.natAbs : Int) = b := by omega
      rw [em, Int.natCast_mul, this, Int.mul_comm]
    have eL' : (L : Int) = (m' : Int) * b' := by
      have : (b'.natAbs : Int) = b' := by omega
      rw [em', Int.natCast_mul, this, Int.mul_comm]
    have wL : Bw 130 (L : Int) := by
      have h1 : Bw 128 (b * b') := wb.mul wb'
      unfold Bw at *
      rw [Int.natAbs_mul] at h1
      rw [Int.natAbs_natCast]
      exact Nat.lt_of_le_of_lt lle (Nat.lt_of_lt_of_le h1 (Nat.pow_le_pow_right (by decide) (by decide)))
    have mle : ∀ {m : Nat} {b : Int}, 0 < b → (L : Int) = (m : Int) * b → Bw 130 (m : Int) := fun {m b} pb e => by
      refine bw_div wL e (by omega)
    have wm := mle pb eL
    have wm' := mle pb' eL'
    repeat (first | walk_at "s" | refine w_I (hdw _) ?_ | refine w_I (hdw' _) ?_ | refine w_fld ha T.c_Root T.nf_bottom (rf_bottom _ _ _) ?_ | refine w_fld ha' T.c_Root T.nf_bottom (rf_bottom _ _ _) ?_)
    rw [ediv_of (by omega) eL, ediv_of (by omega) eL']
    repeat (first | walk_at "s" | refine w_fld ha T.c_Root T.nf_top (rf_top _ _ _) ?_ | refine w_fld ha T.c_Root T.nf_root (rf_root _ _ _) ?_ | refine w_fld ha' T.c_Root T.nf_top (rf_top _ _ _) ?_ | refine w_fld ha' T.c_Root T.nf_root (rf_root _ _ _) ?_ | walk_at "mul")
    refine k_tup rfl fun u H1 hu s1 e1 => q u _ _ _ _ _ H1 s1 e1 ⟨by omega, wL, (wt.mul wm).mono (by decide), (wr.mul wm).mono (by decide), (wt'.mul wm').mono (by decide), (wr'.mul wm').mono (by decide), ?_, ?_, ?_, ?_⟩
    · rw [eL]; exact Int.mul_assoc _ _ _
    · rw [eL]; exact Int.mul_assoc _ _ _
    · rw [eL']; exact Int.mul_assoc _ _ _
    · rw [eL']; exact Int.mul_assoc _ _ _
/-- whether a number lies between minus and plus an edge -/
def bes (t r e f : Int) : Bool := decide (0 < sgn (e - t) (f - r)) && decide (0 < sgn (e + t) (f + r))
abbrev s_beside : Stmt := top 38
theorem sc_beside : FnScope ["top", "root", "edge_top", "edge_root"] ["top", "root", "edge_top", "edge_root"] (defScope s_beside) := ⟨rfl, rfl, rfl, by decide +kernel, rfl, by decide +kernel, by decide +kernel⟩

def sp_beside (Z : Zs) : Sp := fun vs H Q E =>
  ∃ t r e f : Int, vs = [.int t, .int r, .int e, .int f] ∧ Bw 2000 t ∧ Bw 2000 r ∧ Bw 2000 e ∧ Bw 2000 f ∧ Q (.bl (bes t r e f)) H
theorem ok_beside (T : Txt Z mg) (h_surd_sign : Has P w Z.K mg base "surd_sign" 1 ["top", "root"] (sp_surd_sign Z)) (D : AtF Z.K mg "beside" "beside" s_beside ["top", "root", "edge_top", "edge_root"]) : Has P w Z.K mg base "beside" 2 ["top", "root", "edge_top", "edge_root"] (sp_beside Z) := by
  refine D.ok sc_beside (fun vs H Q E h => ?_) (fun cdv A outer s H vs Q E hr h => ?_)
  · obtain ⟨t, r, e, f, rfl, _⟩ := h
    rfl
  · refine ⟨_, (pss_cons (ps_if (pt_cmpR op_le (pe_h (E := ED E) h_surd_sign hr (paW (takes_of rfl rfl rfl rfl)) (pa_cons (pe_op op_sub (pv 2) (pv 0)) (pa_cons (pe_op op_sub (pv 3) (pv 1)) pa_nil))) pe_int (nomark _)) (pss_one (ps_ret pe_bl)) pss_nil)
      (pss_one (ps_ret (pe_cmpR op_gt (pe_h (E := ED E) h_surd_sign hr (paW (takes_of rfl rfl rfl rfl)) (pa_cons (pe_op op_add (pv 2) (pv 0)) (pa_cons (pe_op op_add (pv 3) (pv 1)) pa_nil))) pe_int (nomark _))))), ?_⟩
    try simp only [cxOf]
    obtain ⟨t, r, e, f, rfl, wt, wr, we, wf, q⟩ := h
    unfold bes at q
    walk_at "W"
    refine ⟨_, _, rfl, (we.sub wt).mono (by decide), (wf.sub wr).mono (by decide), ?_⟩
    walk_at "W"
    by_cases c : sgn (e - t) (f - r) ≤ 0
    · rw [decide_eq_true c]
      rw [decide_eq_false (show ¬ (0 < sgn (e - t) (f - r)) by omega)] at q
      walk_at "W"
      exact q
    · rw [decide_eq_false c]
      rw [decide_eq_true (show 0 < sgn (e - t) (f - r) by omega)] at q
      walk_at "W"
      refine ⟨_, _, rfl, (we.add wt).mono (by decide), (wf.add wr).mono (by decide), ?_⟩
      walk_at "W"
      exact q
/-- the window's test over a common bottom -/
def inW (B X1 X2 Y1 Y2 : Int) (c : C4) : Bool :=
  bes (2 * (B * c.a - X1)) (B * (c.d - c.b) - 2 * X2) B B && (bes (-2 * (B * c.c + Y1)) (B * (c.b + c.d) - 2 * Y2) B B && (bes (2 * (B * c.a - X1) + -2 * (B * c.c + Y1)) (B * (c.d - c.b) - 2 * X2 + (B * (c.b + c.d) - 2 * Y2)) (2 * B) B &&
    bes (2 * (B * c.a - X1) - -2 * (B * c.c + Y1)) (B * (c.d - c.b) - 2 * X2 - (B * (c.b + c.d) - 2 * Y2)) (2 * B) B))
theorem k_tup5 {K : PySem.W.Frag} {T : Addr} {x y z u v : V} {σ σ' : L2.St} {H : Hp} {i j k l m : Nat} {N : L2.St → Hp → Prop} {n : Nat} (hT : H T = some (.tup [x, y, z, u, v])) (hn : n = 5) (hσ : ((((σ.set i (some x)).set j (some y)).set k (some z)).set l (some u)).set m (some v) = σ') (q : N σ' H) :
    gTup K n (gCons (gName i) (gCons (gName j) (gCons (gName k) (gCons (gName l) (gCons (gName m) gNil))))) (.ref T) σ H N := by
  subst hσ
  exact ⟨T, [x, y, z, u, v], rfl, SqT.of hT, by rw [hn]; rfl, x, _, rfl, y, _, rfl, z, _, rfl, u, _, rfl, v, [], rfl, rfl, q⟩
abbrev s_in_window : Stmt := top 39
theorem sc_in_window : FnScope ["gauge", "corner", "bottom", "x_top", "x_root", "y_top", "y_root", "x0", "x1", "x2", "x3", "top", "root", "up", "up_root"] ["gauge", "corner"] (defScope s_in_window) := ⟨rfl, rfl, rfl, by decide +kernel, rfl, by decide +kernel, by decide +kernel⟩

def sp_in_window (Z : Zs) : Sp := fun vs H Q E =>
  ∃ g p B X1 X2 Y1 Y2 c, vs = [.ref g, .ref p] ∧ H g = some (.tup [.int B, .int X1, .int X2, .int Y1, .int Y2]) ∧ H p = some (.tup [.int (c : C4).a, .int c.b, .int c.c, .int c.d]) ∧ Bw 130 B ∧ Bw 600 X1 ∧ Bw 600 X2 ∧ Bw 600 Y1 ∧ Bw 600 Y2 ∧ C4.bw 600 c ∧ Q (.bl (inW B X1 X2 Y1 Y2 c)) H
theorem ok_in_window (T : Txt Z mg) (h_beside : Has P w Z.K mg base "beside" 2 ["top", "root", "edge_top", "edge_root"] (sp_beside Z)) (D : AtF Z.K mg "in_window" "in_window" s_in_window ["gauge", "corner"]) : Has P w Z.K mg base "in_window" 3 ["gauge", "corner"] (sp_in_window Z) := by
  refine D.ok sc_in_window (fun vs H Q E h => ?_) (fun cdv A outer s H vs Q E hr h => ?_)
  · obtain ⟨g, p, B, X1, X2, Y1, Y2, c, rfl, _⟩ := h
    rfl
  · refine ⟨_, (pss_cons (ps_asg (pv 0) (pg_tup rfl (pgs_cons (pg_name (i := 2) sc_in_window.nd rfl (Or.inl rfl)) (pgs_cons (pg_name (i := 3) sc_in_window.nd rfl (Or.inl rfl)) (pgs_cons (pg_name (i := 4) sc_in_window.nd rfl (Or.inl rfl)) (pgs_cons (pg_name (i := 5) sc_in_window.nd rfl (Or.inl rfl)) (pgs_cons (pg_name (i := 6) sc_in_window.nd rfl (Or.inl rfl)) pgs_nil)))))))
      (pss_cons (ps_asg (pv 1) (pg_tup rfl (pgs_cons (pg_name (i := 7) sc_in_window.nd rfl (Or.inl rfl)) (pgs_cons (pg_name (i := 8) sc_in_window.nd rfl (Or.inl rfl)) (pgs_cons (pg_name (i := 9) sc_in_window.nd rfl (Or.inl rfl)) (pgs_cons (pg_name (i := 10) sc_in_window.nd rfl (Or.inl rfl)) pgs_nil))))))
      (pss_cons (ps_set (i := 11) sc_in_window.nd rfl (Or.inl rfl) (pe_op op_mulS pe_int (pe_op op_sub (pe_op op_mulS (pv 2) (pv 7)) (pv 3))))
      (pss_cons (ps_set (i := 12) sc_in_window.nd rfl (Or.inl rfl) (pe_op op_sub (pe_op op_mulS (pv 2) (pe_op op_sub (pv 10) (pv 8))) (pe_op op_mulS pe_int (pv 4))))
      (pss_cons (ps_if (pt_not (pt_val (pe_h (E := ED E) h_beside hr (paW (takes_of rfl rfl rfl rfl)) (pa_cons (pv 11) (pa_cons (pv 12) (pa_cons (pv 2) (pa_cons (pv 2) pa_nil))))))) (pss_one (ps_ret pe_bl)) pss_nil)
      (pss_cons (ps_set (i := 13) sc_in_window.nd rfl (Or.inl rfl) (pe_op op_mulS (pe_un un_neg pe_int) (pe_op op_add (pe_op op_mulS (pv 2) (pv 9)) (pv 5))))
      (pss_cons (ps_set (i := 14) sc_in_window.nd rfl (Or.inl rfl) (pe_op op_sub (pe_op op_mulS (pv 2) (pe_op op_add (pv 8) (pv 10))) (pe_op op_mulS pe_int (pv 6))))
      (pss_cons (ps_if (pt_not (pt_val (pe_h (E := ED E) h_beside hr (paW (takes_of rfl rfl rfl rfl)) (pa_cons (pv 13) (pa_cons (pv 14) (pa_cons (pv 2) (pa_cons (pv 2) pa_nil))))))) (pss_one (ps_ret pe_bl)) pss_nil)
      (pss_cons (ps_if (pt_not (pt_val (pe_h (E := ED E) h_beside hr (paW (takes_of rfl rfl rfl rfl)) (pa_cons (pe_op op_add (pv 11) (pv 13)) (pa_cons (pe_op op_add (pv 12) (pv 14)) (pa_cons (pe_op op_mulS pe_int (pv 2)) (pa_cons (pv 2) pa_nil))))))) (pss_one (ps_ret pe_bl)) pss_nil)
      (pss_one (ps_ret (pe_h (E := ED E) h_beside hr (paW (takes_of rfl rfl rfl rfl)) (pa_cons (pe_op op_sub (pv 11) (pv 13)) (pa_cons (pe_op op_sub (pv 12) (pv 14)) (pa_cons (pe_op op_mulS pe_int (pv 2)) (pa_cons (pv 2) pa_nil)))))))))))))))), ?_⟩
    try simp only [cxOf]
    obtain ⟨g, p, B, X1, X2, Y1, Y2, c, rfl, hg, hp, wB, w1, w2, w3, w4, ⟨wa, wb, wc, wd⟩, q⟩ := h
    unfold inW at q
    have wn2 : Bw 2 (-2 : Int) := Bw.two.neg
    walk_at "W"
    refine k_tup5 hg rfl rfl ?_
    walk_at "W"
    refine k_tup4 hp rfl rfl ?_
    repeat (first | walk_at "s" | walk_at "mul")
    have v1 : Bw 1000 (2 * (B * c.a - X1)) := (Bw.two.mul ((wB.mul wa).sub w1)).mono (by decide)
    have v2 : Bw 1000 (B * (c.d - c.b) - 2 * X2) := ((wB.mul (wd.sub wb)).sub (Bw.two.mul w2)).mono (by decide)
    have v3 : Bw 1000 (-2 * (B * c.c + Y1)) := (wn2.mul ((wB.mul wc).add w3)).mono (by decide)
    have v4 : Bw 1000 (B * (c.b + c.d) - 2 * Y2) := ((wB.mul (wb.add wd)).sub (Bw.two.mul w4)).mono (by decide)
    have v5 : Bw 2000 (2 * B) := (Bw.two.mul wB).mono (by decide)
    have v6 : Bw 2000 B := wB.mono (by decide)
    have v1' : Bw 2000 (2 * (B * c.a - X1)) := v1.mono (by decide)
    have v2' : Bw 2000 (B * (c.d - c.b) - 2 * X2) := v2.mono (by decide)
    have v3' : Bw 2000 (-2 * (B * c.c + Y1)) := v3.mono (by decide)
    have v4' : Bw 2000 (B * (c.b + c.d) - 2 * Y2) := v4.mono (by decide)
    have v7 : Bw 2000 ((2 * (B * c.a - X1)) + (-2 * (B * c.c + Y1))) := (v1.add v3).mono (by decide)
    have v8 : Bw 2000 ((B * (c.d - c.b) - 2 * X2) + (B * (c.b + c.d) - 2 * Y2)) := (v2.add v4).mono (by decide)
    have v9 : Bw 2000 ((2 * (B * c.a - X1)) - (-2 * (B * c.c + Y1))) := (v1.sub v3).mono (by decide)
    have v0 : Bw 2000 ((B * (c.d - c.b) - 2 * X2) - (B * (c.b + c.d) - 2 * Y2)) := (v2.sub v4).mono (by decide)
    refine ⟨_, _, _, _, rfl, v1', v2', v6, v6, ?_⟩
    cases e1 : bes (2 * (B * c.a - X1)) (B * (c.d - c.b) - 2 * X2) B B
    · rw [e1] at q
      walk_at "W"
      exact q
    rw [e1] at q
    repeat (first | walk_at "s" | walk_at "mul")
    refine ⟨_, _, _, _, rfl, v3', v4', v6, v6, ?_⟩
    cases e2 : bes (-2 * (B * c.c + Y1)) (B * (c.b + c.d) - 2 * Y2) B B
    · rw [e2] at q
      walk_at "W"
      exact q
    rw [e2] at q
    repeat (first | walk_at "s" | walk_at "mul")
    refine ⟨_, _, _, _, rfl, v7, v8, v5, v6, ?_⟩
    cases e3 : bes ((2 * (B * c.a - X1)) + (-2 * (B * c.c + Y1))) ((B * (c.d - c.b) - 2 * X2) + (B * (c.b + c.d) - 2 * Y2)) (2 * B) B
    · rw [e3] at q
      walk_at "W"
      exact q
    rw [e3] at q
    repeat (first | walk_at "s" | walk_at "mul")
    refine ⟨_, _, _, _, rfl, v9, v0, v5, v6, ?_⟩
    exact q
def floorF (u g : Addr) : List (Str × V) := [("shift", .ref u), ("_gauge", .ref g)]
theorem putS (v : V) : putF "shift" v [] = [(("shift" : Str), v)] := rfl
theorem putG (u v : V) : putF "_gauge" v [(("shift" : Str), u)] = [(("shift" : Str), u), ("_gauge", v)] := by
  have h1 : ¬ (("shift" : Str) = "_gauge") := by decide +kernel
  simp [putF, h1]
theorem ff_shift (u g : Addr) : (floorF u g).lookup ("shift" : Str) = some (.ref u) := by simp [floorF, List.lookup]
theorem ff_gauge (u g : Addr) : (floorF u g).lookup ("_gauge" : Str) = some (.ref g) := by
  have h1 : (("_gauge" : Str) == "shift") = false := by decide +kernel
  simp [floorF, List.lookup, h1]
theorem ff_none {u g : Addr} {m : Str} (h1 : (m == ("shift" : Str)) = false) (h2 : (m == ("_gauge" : Str)) = false) : (floorF u g).lookup m = none := by simp [floorF, List.lookup, h1, h2]
/-- a floor with a shift of two numbers, as kept -/
def FloorAt (Z : Zs) (H : Hp) (v : V) (t r b t' r' b' : Int) : Prop := ∃ a dx u g vx vy B X1 X2 Y1 Y2, v = .ref a ∧ H a = some (.ins Z.c_Floor dx (floorF u g)) ∧ H u = some (.tup [vx, vy]) ∧ RootAt Z.c_Root H vx t r b ∧ RootAt Z.c_Root H vy t' r' b' ∧
  H g = some (.tup [.int B, .int X1, .int X2, .int Y1, .int Y2]) ∧ Gau B X1 X2 Y1 Y2 t r b t' r' b'
theorem FloorAt.kps {Z : Zs} {H H' : Hp} {v : V} {t r b t' r' b' : Int} (h : FloorAt Z H v t r b t' r' b') (k : Kps H H') : FloorAt Z H' v t r b t' r' b' := by
  obtain ⟨a, dx, u, g, vx, vy, B, X1, X2, Y1, Y2, rfl, e1, e2, ⟨x, dx1, rfl, e3⟩, ⟨y, dx2, rfl, e4⟩, e5, G⟩ := h
  have n : ∀ {C d : Addr} {fs : List (Str × V)} (xs : List V), HO.ins C d fs ≠ .lst xs := fun xs z => by cases z
  exact ⟨a, dx, u, g, _, _, B, X1, X2, Y1, Y2, rfl, k _ _ n e1, k.tup e2, ⟨x, dx1, rfl, k _ _ n e3⟩, ⟨y, dx2, rfl, k _ _ n e4⟩, k.tup e5, G⟩
theorem FloorAt.same {Z : Zs} {H H' : Hp} {v : V} {t r b t' r' b' : Int} (h : FloorAt Z H v t r b t' r' b') (s : Same H H') : FloorAt Z H' v t r b t' r' b' := h.kps (Kps.same s)
theorem NumAt.sxF {c p : Addr} {H H' : Hp} {v : V} {t r b : Int} (h : NumAt c H v t r b) (n : ∀ a, v = .ref a → a ≠ p) (s : SameX p H H') : NumAt c H' v t r b := by
  rcases h with ⟨a, dx, rfl, e⟩ | h
  · exact .inl ⟨a, dx, rfl, s _ _ (n a rfl) e⟩
  · exact .inr h
abbrev s_Floor_init : Stmt := inClass (top 46) 0
theorem sc_Floor_init : FnScope ["self", "shift", "direction"] ["self", "shift"] (defScope s_Floor_init) := ⟨rfl, rfl, rfl, by decide +kernel, rfl, by decide +kernel, by decide +kernel⟩

def sp_Floor_init (Z : Zs) : Sp := fun vs H Q E =>
  ∃ p dx v, vs = [.ref p, v] ∧ H p = some (.ins Z.c_Floor dx []) ∧ (NoPt Z H v ∧ ErX Z.c_BadPoint "point" v H E ∨ ∃ w x y t r b t' r' b', v = .ref w ∧ H w = some (.tup [x, y]) ∧ NumAt Z.c_Root H x t r b ∧ NumAt Z.c_Root H y t' r' b' ∧ Sm t r b ∧ Sm t' r' b' ∧
    ((∃ k, barV t r b t' r' b' = .int k ∧ ErX Z.c_Barred "direction" (.int k) H E) ∨ Bw 64 b ∧ Bw 64 b' ∧ Bw 400 t ∧ Bw 400 r ∧ Bw 400 t' ∧ Bw 400 r' ∧ barV t r b t' r' b' = .non ∧ ∀ H', SameX p H H' → FloorAt Z H' (.ref p) t r b t' r' b' → Q .non H'))
theorem ok_Floor_init (T : Txt Z mg) (h_gauge_of : Has P w Z.K mg base "gauge_of" 1 ["shift"] (sp_gauge_of Z)) (h_as_roots : Has P w Z.K mg base "as_roots" 6 ["point"] (sp_as_roots Z)) (h_Barred : HasX P w Z.K mg base "Barred" Z.c_Barred 1 ["self", "direction"] (sp_Barred_init Z)) (h_barred : Has P w Z.K mg base "barred" 8 ["shift"] (sp_barred Z)) (h_check_point : Has P w Z.K mg base "check_point" 4 ["point"] (sp_check_point Z)) (D : AtC Z.K mg "Floor" Z.c_Floor "Floor.__init__" s_Floor_init ["self", "shift"]) : HasC P w Z.K mg base "Floor" Z.c_Floor 9 ["self", "shift"] (sp_Floor_init Z) := by
  refine D.ok sc_Floor_init (fun vs H Q E h => ?_) (fun cdv A outer s H vs Q E hr h => ?_)
  · obtain ⟨p, dx, v, rfl, _⟩ := h
    rfl
  · refine ⟨_, (pss_cons (ps_expr (pe_h (E := ED E) h_check_point hr (paW (takes_of rfl rfl rfl rfl)) (pa_cons (pv 1) pa_nil)))
      (pss_cons (ps_set (i := 2) sc_Floor_init.nd rfl (Or.inl rfl) (pe_h (E := ED E) h_barred hr (paW (takes_of rfl rfl rfl rfl)) (pa_cons (pv 1) pa_nil)))
      (pss_cons (ps_if (pt_cmpR op_notN (pv 2) pe_non (nomark _)) (pss_one (ps_raise rfl (takes_of rfl rfl rfl rfl) (pm_h T.x_Barred h_Barred hr (pa_cons (pv 2) pa_nil)))) pss_nil)
      (pss_cons (ps_fld (pv 0) (pe_h (E := ED E) h_as_roots hr (paW (takes_of rfl rfl rfl rfl)) (pa_cons (pv 1) pa_nil)) rfl)
      (pss_one (ps_fld (pv 0) (pe_h (E := ED E) h_gauge_of hr (paW (takes_of rfl rfl rfl rfl)) (pa_cons (pe_fld (pv 0) rfl) pa_nil)) rfl)))))), ?_⟩
    try simp only [cxOf]
    obtain ⟨p, dx, v, rfl, hp, ⟨n, er⟩ | ⟨w, x, y, t, r, b, t', r', b', rfl, hw, hx, hy, sm, sm', hh⟩⟩ := h
    · walk_at "W"
      exact ⟨_, rfl, .inl ⟨n, er⟩⟩
    walk_at "W"
    refine ⟨_, rfl, .inr ⟨w, x, y, rfl, hw, ⟨_, _, _, hx⟩, ⟨_, _, _, hy⟩, ?_⟩⟩
    walk_at "W"
    refine ⟨_, rfl, .inr ⟨w, x, y, t, r, b, t', r', b', rfl, hw, hx, hy, sm, sm', fun H1 s1 => ?_⟩⟩
    rcases hh with ⟨k, ek, er⟩ | ⟨wb, wb', wt, wr, wt', wr', nb, q⟩
    · rw [ek]
      walk_at "W"
      exact k_mkO (er.same s1)
    rw [nb]
    walk_at "W"
    refine ⟨w, x, y, t, r, b, t', r', b', rfl, s1 _ _ hw, hx.same s1, hy.same s1, fun u vx vy H2 s2 e2 h1 h2 => ?_⟩
    have S2 := s1.trans s2
    walk_at "W"
    refine w_sto (S2 _ _ hp) T.c_Floor T.nf_Floor_shift rfl fun H3 x3 e3 => ?_
    rw [putS] at e3
    have np : ∀ {a : Addr} {o : HO}, H2 a = some o → (∀ C d fs, o ≠ .ins C d fs) ∨ (∃ C d fs, o = .ins C d fs ∧ C ≠ Z.c_Floor) ∨ (∃ C d f fs, o = .ins C d (f :: fs)) → a ≠ p := fun {a o} e h z => by
      have e0 := S2 _ _ hp
      rw [← z, e] at e0
      cases e0
      rcases h with h | ⟨_, _, _, h, n⟩ | ⟨_, _, _, _, h⟩
      · exact h _ _ _ rfl
      · cases h; exact n rfl
      · cases h
    have up : H3 u = some (.tup [vx, vy]) := x3 _ _ (np e2 (.inl (by intros; intro z; cases z))) e2
    obtain ⟨ax, dx1, rfl, g1⟩ := h1
    obtain ⟨ay, dx2, rfl, g2⟩ := h2
    have k1 : H3 ax = some (.ins Z.c_Root dx1 (rootF t r b)) := x3 _ _ (np g1 (.inr (.inr ⟨_, _, _, _, rfl⟩))) g1
    have k2 : H3 ay = some (.ins Z.c_Root dx2 (rootF t' r' b')) := x3 _ _ (np g2 (.inr (.inr ⟨_, _, _, _, rfl⟩))) g2
    walk_at "W"
    refine w_fld e3 T.c_Floor T.nf_Floor_shift (show ([(("shift" : Str), V.ref u)] : List (Str × V)).lookup ("shift" : Str) = some (.ref u) by simp [List.lookup]) ?_
    walk_at "W"
    refine ⟨u, _, _, t, r, b, t', r', b', rfl, up, ⟨ax, dx1, rfl, k1⟩, ⟨ay, dx2, rfl, k2⟩, sm.lw.pos, sm'.lw.pos, wb, wb', wt, wr, wt', wr', fun g B X1 X2 Y1 Y2 H4 s4 eg G => ?_⟩
    walk_at "W"
    refine w_sto (s4 _ _ e3) T.c_Floor T.nf_Floor__gauge rfl fun H5 x5 e5 => ?_
    rw [putG] at e5
    have nq : ∀ {a : Addr} {o : HO}, H4 a = some o → (∀ C d fs, o ≠ .ins C d fs) ∨ (∃ C d f1 f2 f3 fs, o = .ins C d (f1 :: f2 :: f3 :: fs)) → a ≠ p := fun {a o} e h z => by
      have e0 := s4 _ _ e3
      rw [← z, e] at e0
      cases e0
      rcases h with h | ⟨_, _, _, _, _, _, h⟩
      · exact h _ _ _ rfl
      · cases h
    refine q H5 ((Same.x S2).trans (x3.trans ((Same.x s4).trans x5))) ⟨p, dx, u, g, _, _, B, X1, X2, Y1, Y2, rfl, e5, x5 _ _ (nq (s4 _ _ up) (.inl (by intros; intro z; cases z))) (s4 _ _ up), ⟨ax, dx1, rfl, x5 _ _ (nq (s4 _ _ k1) (.inr ⟨_, _, _, _, _, _, rfl⟩)) (s4 _ _ k1)⟩, ⟨ay, dx2, rfl, x5 _ _ (nq (s4 _ _ k2) (.inr ⟨_, _, _, _, _, _, rfl⟩)) (s4 _ _ k2)⟩, x5 _ _ (nq eg (.inl (by intros; intro z; cases z))) eg, G⟩
abbrev s_Floor_has_corner : Stmt := inClass (top 46) 3
theorem sc_Floor_has_corner : FnScope ["self", "corner"] ["self", "corner"] (defScope s_Floor_has_corner) := ⟨rfl, rfl, rfl, by decide +kernel, rfl, by decide +kernel, by decide +kernel⟩

def sp_Floor_has_corner (Z : Zs) : Sp := fun vs H Q E =>
  ∃ v o t r b t' r' b', vs = [v, o] ∧ FloorAt Z H v t r b t' r' b' ∧ ((∃ c, CorAt H o c ∧ C4.bw 600 c ∧ ∀ B X1 X2 Y1 Y2 H', Same H H' → Gau B X1 X2 Y1 Y2 t r b t' r' b' → Q (.bl (inW B X1 X2 Y1 Y2 c)) H') ∨ BadCor Z H o ∧ ErX Z.c_BadCorner "corner" o H E)
theorem ok_Floor_has_corner (T : Txt Z mg) (h_in_window : Has P w Z.K mg base "in_window" 3 ["gauge", "corner"] (sp_in_window Z)) (h_check_corner : Has P w Z.K mg base "check_corner" 3 ["corner"] (sp_check_corner Z)) (D : AtM Z.K Z.c_Floor "has_corner" "Floor.has_corner" s_Floor_has_corner ["self", "corner"]) : HasM P w Z.K mg base Z.c_Floor "has_corner" 4 ["self", "corner"] (sp_Floor_has_corner Z) := by
  refine D.ok sc_Floor_has_corner (fun vs H Q E h => ?_) (fun cdv A outer s H vs Q E hr h => ?_)
  · obtain ⟨v, o, t, r, b, t', r', b', rfl, _⟩ := h
    rfl
  · refine ⟨_, (pss_cons (ps_expr (pe_h (E := ED E) h_check_corner hr (paW (takes_of rfl rfl rfl rfl)) (pa_cons (pv 1) pa_nil)))
      (pss_one (ps_ret (pe_h (E := ED E) h_in_window hr (paW (takes_of rfl rfl rfl rfl)) (pa_cons (pe_fld (pv 0) rfl) (pa_cons (pv 1) pa_nil)))))), ?_⟩
    try simp only [cxOf]
    obtain ⟨v, o, t, r, b, t', r', b', rfl, hf, ⟨c, hc, wc, q⟩ | ⟨bad, er⟩⟩ := h
    · walk_at "W"
      refine ⟨_, rfl, .inl ⟨⟨c, hc⟩, fun H1 s1 => ?_⟩⟩
      obtain ⟨a, dx, u, g, vx, vy, B, X1, X2, Y1, Y2, rfl, e1, e2, e3, e4, e5, G⟩ := hf.same s1
      obtain ⟨p, rfl, hp⟩ := hc.same s1
      walk_at "W"
      refine w_fld e1 T.c_Floor T.nf_Floor__gauge (ff_gauge _ _) ?_
      walk_at "W"
      exact ⟨g, p, B, X1, X2, Y1, Y2, c, rfl, e5, hp, G.wB, G.w1, G.w2, G.w3, G.w4, wc, q _ _ _ _ _ H1 s1 G⟩
    · walk_at "W"
      exact ⟨_, rfl, .inr ⟨bad, er⟩⟩
/-- Floor((x, y)), from its __init__'s promise -/
theorem k_mkFloor {w : Addr} {x y : V} {t r b t' r' b' : Int} {H : Hp} {Q : VK} {E : XK} (hw : H w = some (.tup [x, y])) (hx : NumAt Z.c_Root H x t r b) (hy : NumAt Z.c_Root H y t' r' b') (sm : Sm t r b) (sm' : Sm t' r' b') (wb : Bw 64 b) (wb' : Bw 64 b') (wt : Bw 400 t) (wr : Bw 400 r) (wt' : Bw 400 t') (wr' : Bw 400 r')
    (nb : barV t r b t' r' b' = .non) (ok : ∀ v H', Same H H' → FloorAt Z H' v t r b t' r' b' → Q v H') : MkC Z.c_Floor (sp_Floor_init Z) E [.ref w] H Q := by
  intro p dx nx ndx nex
  have s0 : Same H (upd (upd H dx (.own p)) p (.ins Z.c_Floor dx [])) := fun b o e => by
    rw [upd_ne (ne_of_none e nx), upd_ne (ne_of_none e ndx)]; exact e
  have sx : ∀ H', SameX p (upd (upd H dx (.own p)) p (.ins Z.c_Floor dx [])) H' → Same H H' := fun H' s b o e => s b o (ne_of_none e nx) (s0 b o e)
  exact ⟨p, dx, _, rfl, upd_same, .inr ⟨w, x, y, t, r, b, t', r', b', rfl, s0 _ _ hw, hx.same s0, hy.same s0, sm, sm', .inr ⟨wb, wb', wt, wr, wt', wr', nb, fun H' s e => ⟨rfl, ok _ H' (sx H' s) e⟩⟩⟩⟩
-- needs W13
def eqF (t r b o l m : Int) : Bool := decide (t = o) && (decide (r = l) && decide (b = m))
/-- two Roots: their own == says b -/
def RtEq (c : Addr) : Addr → Addr → Hp → Bool → Prop := fun p q H v => ∃ t r b o l m, RootAt c H (.ref p) t r b ∧ RootAt c H (.ref q) o l m ∧ v = eqF t r b o l m
theorem keepRt {E : XK} : ∀ p q H b, RtEq Z.c_Root p q H b → sp_Root_eq Z [.ref p, .ref q] H (fun z H' => z = .bl b ∧ Ext H H') E := by
  rintro p q H _ ⟨t, r, b, o, l, m, h1, ⟨a, dx, e0, e⟩, rfl⟩
  cases e0
  have er : eqRt H t r b (.ref q) = eqF t r b o l m := by
    show (match H q with | some (.ins _ _ fs) => decide (fs = rootF t r b) | _ => false) = _
    rw [e]
    unfold eqF
    simp only [rf_eq, Bool.decide_and]
    rw [decide_eq_decide.mpr (eq_comm (a := o) (b := t)), decide_eq_decide.mpr (eq_comm (a := l) (b := r)), decide_eq_decide.mpr (eq_comm (a := m) (b := b))]
  exact ⟨_, _, t, r, b, rfl, h1, .root _ dx o l m e, by rw [er], Ext.rfl'⟩
theorem monRt {c : Addr} : ∀ p q H H' b, Ext H H' → RtEq c p q H b → RtEq c p q H' b := by
  rintro p q H H' v e ⟨t, r, b, o, l, m, h1, h2, ev⟩
  exact ⟨t, r, b, o, l, m, RootAt.same h1 e, RootAt.same h2 e, ev⟩
theorem selfRt {c : Addr} : ∀ p H b, RtEq c p p H b → b = true := by
  rintro p H _ ⟨t, r, b, o, l, m, ⟨a, dx, e0, e⟩, ⟨a', dx', e1, e'⟩, rfl⟩
  cases e0
  cases e1
  rw [e] at e'
  injection e' with e'
  injection e' with _ _ e'
  obtain ⟨h1, h2, h3⟩ := (rf_eq ..).mp e'
  unfold eqF
  simp [h1, h2, h3]
/-- how two points of Roots compare -/
theorem k_eqPt {K : PySem.W.Frag} {u u' : Addr} {x y x' y' : V} {t r b t' r' b' t2 r2 b2 t3 r3 b3 : Int} {H : Hp} {Q : VK} (h1 : H u = some (.tup [x, y])) (h2 : H u' = some (.tup [x', y'])) (a1 : RootAt Z.c_Root H x t r b) (a2 : RootAt Z.c_Root H y t' r' b') (a3 : RootAt Z.c_Root H x' t2 r2 b2) (a4 : RootAt Z.c_Root H y' t3 r3 b3)
    (q : ∀ H', Same H H' → Q (.bl (eqF t r b t2 r2 b2 && eqF t' r' b' t3 r3 b3)) H') : rEqB (DTwo K (DInB Z.c_Root (RtEq Z.c_Root))) (.ref u) (.ref u') H Q := by
  have one : ∀ {x y : V} {t r b o l m : Int}, RootAt Z.c_Root H x t r b → RootAt Z.c_Root H y o l m → DInB Z.c_Root (RtEq Z.c_Root) x y H (eqF t r b o l m) := by
    rintro x y t r b o l m ⟨a, dx, rfl, e⟩ ⟨a', dx', rfl, e'⟩
    exact ⟨a, a', dx, dx', _, _, rfl, rfl, e, e', t, r, b, o, l, m, ⟨a, dx, rfl, e⟩, ⟨a', dx', rfl, e'⟩, rfl⟩
  exact ⟨_, ⟨u, u', x, y, x', y', _, _, rfl, rfl, SqT.of h1, SqT.of h2, one a1 a3, one a2 a4, rfl⟩, fun H' e => q H' e⟩
abbrev s_Floor_eq : Stmt := inClass (top 46) 1
theorem sc_Floor_eq : FnScope ["self", "other"] ["self", "other"] (defScope s_Floor_eq) := ⟨rfl, rfl, rfl, by decide +kernel, rfl, by decide +kernel, by decide +kernel⟩

def sp_Floor_eq (Z : Zs) : Sp := fun vs H Q E =>
  ∃ v o t r b t' r' b', vs = [v, o] ∧ FloorAt Z H v t r b t' r' b' ∧ (Th Z.c_Floor H o ∧ isC Z.c_Floor H o = false ∧ Q (.bl false) H ∨ ∃ t2 r2 b2 t3 r3 b3, FloorAt Z H o t2 r2 b2 t3 r3 b3 ∧ ∀ H', Same H H' → Q (.bl (eqF t r b t2 r2 b2 && eqF t' r' b' t3 r3 b3)) H')
theorem ok_Floor_eq (T : Txt Z mg) (h_Root_eq : HasM P w Z.K mg base Z.c_Root "__eq__" 2 ["self", "other"] (sp_Root_eq Z)) (D : AtM Z.K Z.c_Floor "__eq__" "Floor.__eq__" s_Floor_eq ["self", "other"]) : HasM P w Z.K mg base Z.c_Floor "__eq__" 4 ["self", "other"] (sp_Floor_eq Z) := by
  refine D.ok sc_Floor_eq (fun vs H Q E h => ?_) (fun cdv A outer s H vs Q E hr h => ?_)
  · obtain ⟨v, o, t, r, b, t', r', b', rfl, _⟩ := h
    rfl
  · refine ⟨_, (pss_one (ps_ret (pe_and (pe_callB call_isi rfl T.n_isinstance (by decide +kernel) (pa_cons (pv 1) (pa_cons (pe_glob (v := .ref Z.c_Floor) rfl T.g_Floor rfl) pa_nil))) (pe_one (pe_cmpR (op_eqTwo h_Root_eq hr passL keepRt monRt selfRt) (pe_fld (pv 0) rfl) (pe_fld (pv 1) rfl) (nomark _)))))), ?_⟩
    try simp only [cxOf]
    obtain ⟨v, o, t, r, b, t', r', b', rfl, hf, ⟨th, nc, q⟩ | ⟨t2, r2, b2, t3, r3, b3, hg, q⟩⟩ := h
    · obtain ⟨ty, hty, k1, k2, k3, _⟩ := th.ty T.kf_Floor
      rw [nc] at k3
      walk_at "W"
      refine w_isiC hty k3 ?_
      walk_at "W"
      exact q
    obtain ⟨a, dx, u, g, x, y, B, X1, X2, Y1, Y2, rfl, e1, e2, h1, h2, -⟩ := hf
    obtain ⟨a', dx', u', g', x', y', B', Z1, Z2, W1, W2, rfl, e1', e2', h1', h2', -⟩ := hg
    walk_at "W"
    refine w_isiC (.base (.ins e1' T.kf_Floor.ty T.kf_Floor.ha T.kf_Floor.hn T.kf_Floor.htk T.kf_Floor.hm)) T.kf_Floor.cc ?_
    walk_at "W"
    refine w_fld e1 T.c_Floor T.nf_Floor_shift (ff_shift _ _) ?_
    walk_at "W"
    refine w_fld e1' T.c_Floor T.nf_Floor_shift (ff_shift _ _) ?_
    exact k_eqPt e2 e2' h1 h2 h1' h2' q
/-- whether a number lies between minus and plus (k + r) / 2 -/
def in1 (t r b k : Int) : Bool := decide (0 < sgn (k * b - t * 2) (1 * b - r * 2)) && decide (0 < sgn (k * b + t * 2) (1 * b + r * 2))
/-- whether a point lies in the window -/
def inside (t r b t' r' b' : Int) : Bool :=
  in1 t' r' b' 1 && (in1 (plus.t t r b t' r' b') (plus.r t r b t' r' b') (plus.b t r b t' r' b') 2 && (in1 t r b 1 && in1 (minus.t t' r' b' t r b) (minus.r t' r' b' t r b) (minus.b t' r' b' t r b) 2))
theorem in1_scale {t r b k s : Int} (hs : 0 < s) : in1 (t * s) (r * s) (b * s) k = in1 t r b k := by
  unfold in1
  rw [show k * (b * s) - t * s * 2 = (k * b - t * 2) * s by grind, show 1 * (b * s) - r * s * 2 = (1 * b - r * 2) * s by grind, show k * (b * s) + t * s * 2 = (k * b + t * 2) * s by grind, show 1 * (b * s) + r * s * 2 = (1 * b + r * 2) * s by grind, sgn_scale hs, sgn_scale hs]
theorem in1_neg {t r b k : Int} : in1 (-t) (-r) b k = in1 t r b k := by
  unfold in1
  rw [show k * b - -t * 2 = k * b + t * 2 by grind, show 1 * b - -r * 2 = 1 * b + r * 2 by grind, show k * b + -t * 2 = k * b - t * 2 by grind, show 1 * b + -r * 2 = 1 * b - r * 2 by grind, Bool.and_comm]
theorem in1_bes {t r B k : Int} : in1 t r (2 * B) k = bes t r (k * B) B := by
  unfold in1 bes
  rw [show k * (2 * B) - t * 2 = (k * B - t) * 2 by grind, show 1 * (2 * B) - r * 2 = (B - r) * 2 by grind, show k * (2 * B) + t * 2 = (k * B + t) * 2 by grind, show 1 * (2 * B) + r * 2 = (B + r) * 2 by grind, sgn_scale (by decide), sgn_scale (by decide)]
theorem in1_congr {t r b t' r' b' k s s' : Int} (hs : 0 < s) (hs' : 0 < s') (e1 : t * s = t' * s') (e2 : r * s = r' * s') (e3 : b * s = b' * s') : in1 t r b k = in1 t' r' b' k := by
  rw [← in1_scale hs, e1, e2, e3, in1_scale hs']
theorem inside_congr {t r b t' r' b' p q a p' q' a' s s' z z' : Int} (hs : 0 < s) (hs' : 0 < s') (hz : 0 < z) (hz' : 0 < z') (e1 : t * s = p * z) (e2 : r * s = q * z) (e3 : b * s = a * z) (e4 : t' * s' = p' * z') (e5 : r' * s' = q' * z') (e6 : b' * s' = a' * z') : inside t r b t' r' b' = inside p q a p' q' a' := by
  unfold inside
  rw [in1_congr hs' hz' e4 e5 e6, in1_congr hs hz e1 e2 e3]
  have m1 : ∀ x y X Y : Int, x * s = X * z → y * s' = Y * z' → (x * y) * (s * s') = (X * Y) * (z * z') := fun x y X Y h1 h2 => by
    rw [show (x * y) * (s * s') = (x * s) * (y * s') by grind, h1, h2]; grind
  have a1 := m1 _ _ _ _ e1 e6
  have a2 := m1 _ _ _ _ e3 e4
  have a3 := m1 _ _ _ _ e2 e6
  have a4 := m1 _ _ _ _ e3 e5
  have a5 := m1 _ _ _ _ e3 e6
  rw [in1_congr (t := plus.t t r b t' r' b') (r := plus.r t r b t' r' b') (b := plus.b t r b t' r' b') (t' := plus.t p q a p' q' a') (r' := plus.r p q a p' q' a') (b' := plus.b p q a p' q' a') (s := s * s') (s' := z * z') (Int.mul_pos hs hs') (Int.mul_pos hz hz')
      (by show (t * b' + t' * b) * (s * s') = (p * a' + p' * a) * (z * z'); grind) (by show (r * b' + r' * b) * (s * s') = (q * a' + q' * a) * (z * z'); grind) a5,
    in1_congr (t := minus.t t' r' b' t r b) (r := minus.r t' r' b' t r b) (b := minus.b t' r' b' t r b) (t' := minus.t p' q' a' p q a) (r' := minus.r p' q' a' p q a) (b' := minus.b p' q' a' p q a) (s := s * s') (s' := z * z') (Int.mul_pos hs hs') (Int.mul_pos hz hz')
      (by show (t' * b - t * b') * (s * s') = (p' * a - p * a') * (z * z'); grind) (by show (r' * b - r * b') * (s * s') = (q' * a - q * a') * (z * z'); grind) (by show (b' * b) * (s * s') = (a' * a) * (z * z'); grind)]
theorem ands (a b c d : Bool) : (a && (b && (c && d))) = (b && (c && (a && d))) := by cases a <;> cases b <;> cases c <;> cases d <;> rfl
/-- the program's test over a common bottom is the window's -/
theorem inW_inside {B X1 X2 Y1 Y2 t r b t' r' b' : Int} (G : Gau B X1 X2 Y1 Y2 t r b t' r' b') (hb : 0 < b) (hb' : 0 < b') (c : C4) :
    inW B X1 X2 Y1 Y2 c = inside (minus.t (2 * (conj c).a) ((conj c).b - (conj c).d) 2 t r b) (minus.r (2 * (conj c).a) ((conj c).b - (conj c).d) 2 t r b) (minus.b (2 * (conj c).a) ((conj c).b - (conj c).d) 2 t r b)
      (minus.t (2 * (conj c).c) ((conj c).b + (conj c).d) 2 t' r' b') (minus.r (2 * (conj c).c) ((conj c).b + (conj c).d) 2 t' r' b') (minus.b (2 * (conj c).c) ((conj c).b + (conj c).d) 2 t' r' b') := by
  have pB := G.pB
  have e1 := G.e1
  have e2 := G.e2
  have e3 := G.e3
  have e4 := G.e4
  rw [inside_congr (p := 2 * (B * c.a - X1)) (q := B * (c.d - c.b) - 2 * X2) (a := 2 * B) (p' := -2 * (B * c.c + Y1)) (q' := B * (c.b + c.d) - 2 * Y2) (a' := 2 * B) (s := B) (z := b) (s' := B) (z' := b') pB pB hb hb'
    (by show (2 * c.a * b - t * 2) * B = 2 * (B * c.a - X1) * b; grind) (by show ((c.d - c.b) * b - r * 2) * B = (B * (c.d - c.b) - 2 * X2) * b; grind) (by show 2 * b * B = 2 * B * b; grind)
    (by show (2 * -c.c * b' - t' * 2) * B = -2 * (B * c.c + Y1) * b'; grind) (by show ((c.d + c.b) * b' - r' * 2) * B = (B * (c.b + c.d) - 2 * Y2) * b'; grind) (by show 2 * b' * B = 2 * B * b'; grind)]
  unfold inW inside
  generalize 2 * (B * c.a - X1) = A
  generalize B * (c.d - c.b) - 2 * X2 = A'
  generalize -2 * (B * c.c + Y1) = C
  generalize B * (c.b + c.d) - 2 * Y2 = C'
  rw [in1_congr (t := plus.t A A' (2 * B) C C' (2 * B)) (r := plus.r A A' (2 * B) C C' (2 * B)) (b := plus.b A A' (2 * B) C C' (2 * B)) (t' := A + C) (r' := A' + C') (b' := 2 * B) (s := 1) (s' := 2 * B) (by decide) (by omega) (by show (A * (2 * B) + C * (2 * B)) * 1 = (A + C) * (2 * B); grind) (by show (A' * (2 * B) + C' * (2 * B)) * 1 = (A' + C') * (2 * B); grind) (by show 2 * B * (2 * B) * 1 = 2 * B * (2 * B); grind),
    in1_congr (t := minus.t C C' (2 * B) A A' (2 * B)) (r := minus.r C C' (2 * B) A A' (2 * B)) (b := minus.b C C' (2 * B) A A' (2 * B)) (t' := -(A - C)) (r' := -(A' - C')) (b' := 2 * B) (s := 1) (s' := 2 * B) (by decide) (by omega) (by show (C * (2 * B) - A * (2 * B)) * 1 = -(A - C) * (2 * B); grind) (by show (C' * (2 * B) - A' * (2 * B)) * 1 = -(A' - C') * (2 * B); grind) (by show 2 * B * (2 * B) * 1 = 2 * B * (2 * B); grind),
    in1_neg, in1_bes, in1_bes, in1_bes, in1_bes, Int.one_mul]
  exact ands _ _ _ _
/-! ### barred shifts, moved by stars of corners -/
theorem ev_star {a e t r b : Int} (hb : b ≠ 0) : EvB (minus.t (2 * a) e 2 t r b) (minus.r (2 * a) e 2 t r b) (minus.b (2 * a) e 2 t r b) ↔ EvB t r b := by
  constructor
  · rintro ⟨⟨k, h1⟩, m, h2⟩
    have h1 : 2 * (2 * a * b - t * 2) = (2 * k + 1) * (2 * b) := h1
    have h2 : 2 * (e * b - r * 2) = m * (2 * b) := h2
    exact ⟨⟨a - k - 1, by grind⟩, e - m, by grind⟩
  · rintro ⟨⟨k, h1⟩, m, h2⟩
    exact ⟨⟨a - k - 1, by show 2 * (2 * a * b - t * 2) = (2 * (a - k - 1) + 1) * (2 * b); grind⟩, e - m, by show 2 * (e * b - r * 2) = (e - m) * (2 * b); grind⟩
theorem od_star {a e c f g t r b t' r' b' : Int} (hg : e + f = 2 * g) : OdB (plus.t (minus.t (2 * a) e 2 t r b) (minus.r (2 * a) e 2 t r b) (minus.b (2 * a) e 2 t r b) (minus.t (2 * c) f 2 t' r' b') (minus.r (2 * c) f 2 t' r' b') (minus.b (2 * c) f 2 t' r' b')) (plus.r (minus.t (2 * a) e 2 t r b) (minus.r (2 * a) e 2 t r b) (minus.b (2 * a) e 2 t r b) (minus.t (2 * c) f 2 t' r' b') (minus.r (2 * c) f 2 t' r' b') (minus.b (2 * c) f 2 t' r' b')) (plus.b (minus.t (2 * a) e 2 t r b) (minus.r (2 * a) e 2 t r b) (minus.b (2 * a) e 2 t r b) (minus.t (2 * c) f 2 t' r' b') (minus.r (2 * c) f 2 t' r' b') (minus.b (2 * c) f 2 t' r' b')) ↔
    OdB (plus.t t r b t' r' b') (plus.r t r b t' r' b') (plus.b t r b t' r' b') := by
  constructor
  · rintro ⟨⟨m, h1⟩, k, h2⟩
    have h1 : (2 * a * b - t * 2) * (2 * b') + (2 * c * b' - t' * 2) * (2 * b) = m * (2 * b * (2 * b')) := h1
    have h2 : 2 * ((e * b - r * 2) * (2 * b') + (f * b' - r' * 2) * (2 * b)) = (2 * k + 1) * (2 * b * (2 * b')) := h2
    refine ⟨⟨a + c - m, ?_⟩, g - k - 1, ?_⟩
    · show t * b' + t' * b = (a + c - m) * (b * b')
      grind
    · show 2 * (r * b' + r' * b) = (2 * (g - k - 1) + 1) * (b * b')
      grind
  · rintro ⟨⟨m, h1⟩, k, h2⟩
    have h1 : t * b' + t' * b = m * (b * b') := h1
    have h2 : 2 * (r * b' + r' * b) = (2 * k + 1) * (b * b') := h2
    refine ⟨⟨a + c - m, ?_⟩, g - k - 1, ?_⟩
    · show (2 * a * b - t * 2) * (2 * b') + (2 * c * b' - t' * 2) * (2 * b) = (a + c - m) * (2 * b * (2 * b'))
      grind
    · show 2 * ((e * b - r * 2) * (2 * b') + (f * b' - r' * 2) * (2 * b)) = (2 * (g - k - 1) + 1) * (2 * b * (2 * b'))
      grind
theorem od_star' {a e c f g t r b t' r' b' : Int} (hg : f - e = 2 * g) : OdB (minus.t (minus.t (2 * c) f 2 t' r' b') (minus.r (2 * c) f 2 t' r' b') (minus.b (2 * c) f 2 t' r' b') (minus.t (2 * a) e 2 t r b) (minus.r (2 * a) e 2 t r b) (minus.b (2 * a) e 2 t r b)) (minus.r (minus.t (2 * c) f 2 t' r' b') (minus.r (2 * c) f 2 t' r' b') (minus.b (2 * c) f 2 t' r' b') (minus.t (2 * a) e 2 t r b) (minus.r (2 * a) e 2 t r b) (minus.b (2 * a) e 2 t r b)) (minus.b (minus.t (2 * c) f 2 t' r' b') (minus.r (2 * c) f 2 t' r' b') (minus.b (2 * c) f 2 t' r' b') (minus.t (2 * a) e 2 t r b) (minus.r (2 * a) e 2 t r b) (minus.b (2 * a) e 2 t r b)) ↔
    OdB (minus.t t' r' b' t r b) (minus.r t' r' b' t r b) (minus.b t' r' b' t r b) := by
  constructor
  · rintro ⟨⟨m, h1⟩, k, h2⟩
    have h1 : (2 * c * b' - t' * 2) * (2 * b) - (2 * a * b - t * 2) * (2 * b') = m * (2 * b' * (2 * b)) := h1
    have h2 : 2 * ((f * b' - r' * 2) * (2 * b) - (e * b - r * 2) * (2 * b')) = (2 * k + 1) * (2 * b' * (2 * b)) := h2
    refine ⟨⟨c - a - m, ?_⟩, g - k - 1, ?_⟩
    · show t' * b - t * b' = (c - a - m) * (b' * b)
      grind
    · show 2 * (r' * b - r * b') = (2 * (g - k - 1) + 1) * (b' * b)
      grind
  · rintro ⟨⟨m, h1⟩, k, h2⟩
    have h1 : t' * b - t * b' = m * (b' * b) := h1
    have h2 : 2 * (r' * b - r * b') = (2 * k + 1) * (b' * b) := h2
    refine ⟨⟨c - a - m, ?_⟩, g - k - 1, ?_⟩
    · show (2 * c * b' - t' * 2) * (2 * b) - (2 * a * b - t * 2) * (2 * b') = (c - a - m) * (2 * b' * (2 * b))
      grind
    · show 2 * ((f * b' - r' * 2) * (2 * b) - (e * b - r * 2) * (2 * b')) = (2 * (g - k - 1) + 1) * (2 * b' * (2 * b))
      grind
theorem decB_congr {p q : Prop} (h : p ↔ q) : decB p = decB q := congrArg decB (propext h)
theorem bar_star {t r b t' r' b' : Int} (hb : b ≠ 0) (hb' : b' ≠ 0) (E : C4) : barV (minus.t (2 * E.a) (E.b - E.d) 2 t r b) (minus.r (2 * E.a) (E.b - E.d) 2 t r b) (minus.b (2 * E.a) (E.b - E.d) 2 t r b) (minus.t (2 * E.c) (E.b + E.d) 2 t' r' b') (minus.r (2 * E.c) (E.b + E.d) 2 t' r' b') (minus.b (2 * E.c) (E.b + E.d) 2 t' r' b') = barV t r b t' r' b' := by
  unfold barV
  rw [decB_congr (ev_star hb), decB_congr (ev_star hb'), decB_congr (od_star (g := E.b) (by omega)), decB_congr (od_star' (g := E.d) (by omega))]
theorem bar_scale {t r b t' r' b' s s' : Int} (hs : s ≠ 0) (hs' : s' ≠ 0) : barV (t * s) (r * s) (b * s) (t' * s') (r' * s') (b' * s') = barV t r b t' r' b' := by
  have h0 : s * s' ≠ 0 := Int.mul_ne_zero hs hs'
  unfold barV
  rw [decB_congr (ev_scale hs), decB_congr (ev_scale hs')]
  rw [show plus.t (t * s) (r * s) (b * s) (t' * s') (r' * s') (b' * s') = plus.t t r b t' r' b' * (s * s') by unfold plus; dsimp only; grind, show plus.r (t * s) (r * s) (b * s) (t' * s') (r' * s') (b' * s') = plus.r t r b t' r' b' * (s * s') by unfold plus; dsimp only; grind, show plus.b (t * s) (r * s) (b * s) (t' * s') (r' * s') (b' * s') = plus.b t r b t' r' b' * (s * s') by unfold plus; dsimp only; grind,
    show minus.t (t' * s') (r' * s') (b' * s') (t * s) (r * s) (b * s) = minus.t t' r' b' t r b * (s * s') by unfold minus; dsimp only; grind, show minus.r (t' * s') (r' * s') (b' * s') (t * s) (r * s) (b * s) = minus.r t' r' b' t r b * (s * s') by unfold minus; dsimp only; grind, show minus.b (t' * s') (r' * s') (b' * s') (t * s) (r * s) (b * s) = minus.b t' r' b' t r b * (s * s') by unfold minus; dsimp only; grind]
  rw [decB_congr (od_scale h0), decB_congr (od_scale h0)]
theorem bar_low {t r b t' r' b' : Int} (hb : b ≠ 0) (hb' : b' ≠ 0) : barV (lowT t r b) (lowR t r b) (lowB t r b) (lowT t' r' b') (lowR t' r' b') (lowB t' r' b') = barV t r b t' r' b' := by
  obtain ⟨s, hs, e1, e2, e3⟩ := (low_is (t := t) (r := r) hb).s
  obtain ⟨s', hs', e1', e2', e3'⟩ := (low_is (t := t') (r := r') hb').s
  have k := bar_scale (t := lowT t r b) (r := lowR t r b) (b := lowB t r b) (t' := lowT t' r' b') (r' := lowR t' r' b') (b' := lowB t' r' b') hs hs'
  rw [← e1, ← e2, ← e3, ← e1', ← e2', ← e3'] at k
  exact k.symm
theorem all4 {a b c d : Bool} {i : Nat} (h : ∀ j x, j < i → [a, b, c, d][j]? = some x → x = true) (hi : i = 4) : (a && (b && (c && d))) = true := by
  subst hi
  rw [h 0 a (by decide) rfl, h 1 b (by decide) rfl, h 2 c (by decide) rfl, h 3 d (by decide) rfl]
  rfl
theorem some4 {a b c d : Bool} {i : Nat} (h : [a, b, c, d][i]? = some false) : (a && (b && (c && d))) = false := by
  rcases i with _ | _ | _ | _ | i
  · cases h; rfl
  · cases h; cases a <;> rfl
  · cases h; cases a <;> cases b <;> rfl
  · cases h; cases a <;> cases b <;> cases c <;> rfl
  · simp at h
def barF (a b c d : Bool) : V := if a = true then .int 0 else if b = true then .int 1 else if c = true then .int 2 else if d = true then .int 3 else .non
theorem barF_at {a b c d : Bool} {i : Nat} (h : ∀ j x, j < i → [a, b, c, d][j]? = some x → x = false) (e : [a, b, c, d][i]? = some true) : barF a b c d = .int (i : Nat) := by
  rcases i with _ | _ | _ | _ | i
  · cases e; rfl
  · have h0 := h 0 a (by decide) rfl
    cases e; subst h0; rfl
  · have h0 := h 0 a (by decide) rfl
    have h1 := h 1 b (by decide) rfl
    cases e; subst h0 h1; rfl
  · have h0 := h 0 a (by decide) rfl
    have h1 := h 1 b (by decide) rfl
    have h2 := h 2 c (by decide) rfl
    cases e; subst h0 h1 h2; rfl
  · simp at e
theorem barF_non {a b c d : Bool} (h : ∀ j x, j < 4 → [a, b, c, d][j]? = some x → x = false) : barF a b c d = .non := by
  have h0 := h 0 a (by decide) rfl
  have h1 := h 1 b (by decide) rfl
  have h2 := h 2 c (by decide) rfl
  have h3 := h 3 d (by decide) rfl
  subst h0 h1 h2 h3
  rfl
theorem sgn_pp {t r : Int} (h : 0 < t) (h' : 0 ≤ r) : 0 < sgn t r := by
  unfold sgn
  rw [if_neg (by omega), if_pos ⟨by omega, h'⟩]
  decide
theorem in1_pos {t r b k : Int} (h1 : 0 < k * b - t * 2) (h2 : 0 ≤ 1 * b - r * 2) (h3 : 0 < k * b + t * 2) (h4 : 0 ≤ 1 * b + r * 2) : in1 t r b k = true := by
  unfold in1
  rw [decide_eq_true (sgn_pp h1 h2), decide_eq_true (sgn_pp h3 h4)]
  rfl
/-- what a spot is drawn as -/
structure SpotB (w x0 x1 y0 y1 : Int) : Prop where
  p : 0 < w
  m : w ≤ 1000000000000000000
  a1 : -(2 * w) ≤ x0
  a2 : x0 ≤ 2 * w
  a3 : -w ≤ x1
  a4 : x1 ≤ w
  b1 : -(2 * w) ≤ y0
  b2 : y0 ≤ 2 * w
  b3 : -w ≤ y1
  b4 : y1 ≤ w
theorem spot_fifth {w x0 x1 y0 y1 : Int} (h : SpotB w x0 x1 y0 y1) : inside x0 x1 (5 * w) y0 y1 (5 * w) = true := by
  obtain ⟨p, m, a1, a2, a3, a4, b1, b2, b3, b4⟩ := h
  have pw : ∀ {z : Int}, 0 < z → 0 < 5 * w * z := fun h => Int.mul_pos (by omega) h
  unfold inside
  rw [in1_pos (t := y0) (r := y1) (by omega) (by omega) (by omega) (by omega), in1_pos (t := x0) (r := x1) (by omega) (by omega) (by omega) (by omega),
    in1_pos (t := plus.t x0 x1 (5 * w) y0 y1 (5 * w)) (r := plus.r x0 x1 (5 * w) y0 y1 (5 * w)) (b := plus.b x0 x1 (5 * w) y0 y1 (5 * w)) ?_ ?_ ?_ ?_,
    in1_pos (t := minus.t y0 y1 (5 * w) x0 x1 (5 * w)) (r := minus.r y0 y1 (5 * w) x0 x1 (5 * w)) (b := minus.b y0 y1 (5 * w) x0 x1 (5 * w)) ?_ ?_ ?_ ?_]
  · rfl
  · have := pw (z := 2 * (5 * w) - (y0 - x0) * 2) (by omega)
    show 0 < 2 * (5 * w * (5 * w)) - (y0 * (5 * w) - x0 * (5 * w)) * 2
    rw [show 2 * (5 * w * (5 * w)) - (y0 * (5 * w) - x0 * (5 * w)) * 2 = 5 * w * (2 * (5 * w) - (y0 - x0) * 2) by grind]; exact this
  · have := pw (z := 5 * w - (y1 - x1) * 2) (by omega)
    show 0 ≤ 1 * (5 * w * (5 * w)) - (y1 * (5 * w) - x1 * (5 * w)) * 2
    rw [show 1 * (5 * w * (5 * w)) - (y1 * (5 * w) - x1 * (5 * w)) * 2 = 5 * w * (5 * w - (y1 - x1) * 2) by grind]; omega
  · have := pw (z := 2 * (5 * w) + (y0 - x0) * 2) (by omega)
    show 0 < 2 * (5 * w * (5 * w)) + (y0 * (5 * w) - x0 * (5 * w)) * 2
    rw [show 2 * (5 * w * (5 * w)) + (y0 * (5 * w) - x0 * (5 * w)) * 2 = 5 * w * (2 * (5 * w) + (y0 - x0) * 2) by grind]; exact this
  · have := pw (z := 5 * w + (y1 - x1) * 2) (by omega)
    show 0 ≤ 1 * (5 * w * (5 * w)) + (y1 * (5 * w) - x1 * (5 * w)) * 2
    rw [show 1 * (5 * w * (5 * w)) + (y1 * (5 * w) - x1 * (5 * w)) * 2 = 5 * w * (5 * w + (y1 - x1) * 2) by grind]; omega
  · have := pw (z := 2 * (5 * w) - (x0 + y0) * 2) (by omega)
    show 0 < 2 * (5 * w * (5 * w)) - (x0 * (5 * w) + y0 * (5 * w)) * 2
    rw [show 2 * (5 * w * (5 * w)) - (x0 * (5 * w) + y0 * (5 * w)) * 2 = 5 * w * (2 * (5 * w) - (x0 + y0) * 2) by grind]; exact this
  · have := pw (z := 5 * w - (x1 + y1) * 2) (by omega)
    show 0 ≤ 1 * (5 * w * (5 * w)) - (x1 * (5 * w) + y1 * (5 * w)) * 2
    rw [show 1 * (5 * w * (5 * w)) - (x1 * (5 * w) + y1 * (5 * w)) * 2 = 5 * w * (5 * w - (x1 + y1) * 2) by grind]; omega
  · have := pw (z := 2 * (5 * w) + (x0 + y0) * 2) (by omega)
    show 0 < 2 * (5 * w * (5 * w)) + (x0 * (5 * w) + y0 * (5 * w)) * 2
    rw [show 2 * (5 * w * (5 * w)) + (x0 * (5 * w) + y0 * (5 * w)) * 2 = 5 * w * (2 * (5 * w) + (x0 + y0) * 2) by grind]; exact this
  · have := pw (z := 5 * w + (x1 + y1) * 2) (by omega)
    show 0 ≤ 1 * (5 * w * (5 * w)) + (x1 * (5 * w) + y1 * (5 * w)) * 2
    rw [show 1 * (5 * w * (5 * w)) + (x1 * (5 * w) + y1 * (5 * w)) * 2 = 5 * w * (5 * w + (x1 + y1) * 2) by grind]; omega
theorem spot_ninth {m n : Int} (h1 : -4 ≤ m) (h2 : m ≤ 4) (h3 : -4 ≤ n) (h4 : n ≤ 4) : inside m 0 9 n 0 9 = true ∧ barV m 0 9 n 0 9 = .non := by
  constructor
  · unfold inside
    rw [in1_pos (t := n) (by omega) (by omega) (by omega) (by omega), in1_pos (t := m) (by omega) (by omega) (by omega) (by omega),
      in1_pos (t := plus.t m 0 9 n 0 9) (r := plus.r m 0 9 n 0 9) (b := plus.b m 0 9 n 0 9) (by unfold plus; dsimp only; omega) (by unfold plus; dsimp only; omega) (by unfold plus; dsimp only; omega) (by unfold plus; dsimp only; omega),
      in1_pos (t := minus.t n 0 9 m 0 9) (r := minus.r n 0 9 m 0 9) (b := minus.b n 0 9 m 0 9) (by unfold minus; dsimp only; omega) (by unfold minus; dsimp only; omega) (by unfold minus; dsimp only; omega) (by unfold minus; dsimp only; omega)]
    rfl
  · have e1 : ∀ m : Int, -4 ≤ m → m ≤ 4 → ¬ EvB m 0 9 := by
      rintro m h1 h2 ⟨⟨k, e⟩, _⟩
      omega
    have e2 : ¬ OdB (plus.t m 0 9 n 0 9) (plus.r m 0 9 n 0 9) (plus.b m 0 9 n 0 9) := by
      rintro ⟨_, k, e⟩
      have e : 2 * (0 * 9 + 0 * 9) = (2 * k + 1) * (9 * 9) := e
      omega
    have e3 : ¬ OdB (minus.t n 0 9 m 0 9) (minus.r n 0 9 m 0 9) (minus.b n 0 9 m 0 9) := by
      rintro ⟨_, k, e⟩
      have e : 2 * (0 * 9 - 0 * 9) = (2 * k + 1) * (9 * 9) := e
      omega
    unfold barV
    rw [decB_f (e1 n h3 h4), decB_f e2, decB_f (e1 m h1 h2), decB_f e3]
    rfl
theorem bw_dbl {n : Nat} {x : Int} (h : Bw n x) : Bw (n + 1) (2 * x) := by
  unfold Bw at *
  rw [Int.natAbs_mul, Nat.pow_succ, show (2 : Int).natAbs = 2 from rfl]
  omega
/-- a shift that a law has made: a corner's star less a spot -/
structure ShB (T R B T' R' B' : Int) : Prop where
  p : 0 < B
  p' : 0 < B'
  wB : Bw 64 B
  wB' : Bw 64 B'
  wT : Bw 280 T
  wR : Bw 280 R
  wT' : Bw 280 T'
  wR' : Bw 280 R'
  nb : barV T R B T' R' B' = .non
theorem low_bw {n : Nat} {T R B : Int} (hB : B ≠ 0) (wT : Bw n T) (wR : Bw n R) (wB : Bw 64 B) : Bw n (lowT T R B) ∧ Bw n (lowR T R B) ∧ Bw 64 (lowB T R B) := by
  obtain ⟨s, hs, e1, e2, e3⟩ := (low_is (t := T) (r := R) hB).s
  exact ⟨bw_div wT e1 hs, bw_div wR e2 hs, bw_div wB e3 hs⟩
theorem k_floor {w : Addr} {x y : V} {T R B T' R' B' : Int} {H : Hp} {Q : VK} {E : XK} (sb : ShB T R B T' R' B') (hw : H w = some (.tup [x, y])) (hx : NumAt Z.c_Root H x (lowT T R B) (lowR T R B) (lowB T R B)) (hy : NumAt Z.c_Root H y (lowT T' R' B') (lowR T' R' B') (lowB T' R' B'))
    (ok : ∀ v H', Same H H' → FloorAt Z H' v (lowT T R B) (lowR T R B) (lowB T R B) (lowT T' R' B') (lowR T' R' B') (lowB T' R' B') → Q v H') : MkC Z.c_Floor (sp_Floor_init Z) E [.ref w] H Q := by
  obtain ⟨p, p', wB, wB', wT, wR, wT', wR', nb⟩ := sb
  have n1 : B ≠ 0 := by omega
  have n2 : B' ≠ 0 := by omega
  obtain ⟨a1, a2, a3⟩ := low_bw n1 wT wR wB
  obtain ⟨b1, b2, b3⟩ := low_bw n2 wT' wR' wB'
  exact k_mkFloor hw hx hy (Sm.low n1 (wT.mono (by decide)) (wR.mono (by decide)) (wB.mono (by decide))) (Sm.low n2 (wT'.mono (by decide)) (wR'.mono (by decide)) (wB'.mono (by decide))) a3 b3 (a1.mono (by decide)) (a2.mono (by decide)) (b1.mono (by decide)) (b2.mono (by decide)) (by rw [bar_low n1 n2]; exact nb) ok
-- needs W27
local macro_rules | `(tactic| walk_at "s") => `(tactic| first | with_reducible refine L2.My.w_chain ?_ | with_reducible refine L2.My.w_chain3 ?_ | with_reducible refine L2.My.w_bm ?_ | with_reducible refine L2.My.w_forEn ?_ | with_reducible refine L2.My.w_forEnT ?_ | with_reducible refine L2.My.w_lcZT ?_ | with_reducible refine L2.My.w_forZT ?_)
/-! rows of bounds, as lists or as tuples -/
def LT (H : Hp) (a : Addr) (xs : List V) : Prop := H a = some (.lst xs) ∨ H a = some (.tup xs)
theorem LT.same {H H' : Hp} {a : Addr} {xs : List V} (h : LT H a xs) (s : Same H H') : LT H' a xs := h.imp (s _ _) (s _ _)
def NoRow (H : Hp) (v : V) : Prop := v = .non ∨ (∃ b, v = .bl b) ∨ (∃ i, v = .int i) ∨ (∃ s, v = .str s) ∨ ∃ a kvs, v = .ref a ∧ H a = some (.dK kvs)
theorem NoRow.same {H H' : Hp} {v : V} (h : NoRow H v) (s : Same H H') : NoRow H' v := by
  rcases h with h | h | h | h | ⟨a, kvs, rfl, e⟩
  · exact .inl h
  · exact .inr (.inl h)
  · exact .inr (.inr (.inl h))
  · exact .inr (.inr (.inr (.inl h)))
  · exact .inr (.inr (.inr (.inr ⟨a, kvs, rfl, s _ _ e⟩)))
theorem NoRow.ty {K : PySem.W.Frag} {H : Hp} {v : V} (h : NoRow H v) : ∃ t, TyX K H v t ∧ PySem.W.kitAny K t [.type "list", .type "tuple"] = some false := by
  have kb : ∀ (a : String), kitB a "list" = some false → kitB a "tuple" = some false → PySem.W.kitAny K (.type a) [.type "list", .type "tuple"] = some false := fun a h1 h2 => kitAny_cons (kit_ty h1) (fun _ => kitAny_cons (kit_ty h2) (fun _ => kitAny_nil) (by simp)) (by simp)
  rcases h with rfl | ⟨b, rfl⟩ | ⟨i, rfl⟩ | ⟨s, rfl⟩ | ⟨a, kvs, rfl, e⟩
  · exact ⟨_, .base .non, kb "NoneType" (by decide +kernel) (by decide +kernel)⟩
  · exact ⟨_, .base (.bl b), kb "bool" (by decide +kernel) (by decide +kernel)⟩
  · exact ⟨_, .base (.int i), kb "int" (by decide +kernel) (by decide +kernel)⟩
  · exact ⟨_, .base (.str s), kb "str" (by decide +kernel) (by decide +kernel)⟩
  · exact ⟨_, .base (.dK e), kb "dict" (by decide +kernel) (by decide +kernel)⟩
theorem LT.ty {K : PySem.W.Frag} {H : Hp} {a : Addr} {xs : List V} (h : LT H a xs) : ∃ t, TyX K H (.ref a) t ∧ PySem.W.kitAny K t [.type "list", .type "tuple"] = some true := by
  rcases h with e | e
  · exact ⟨_, .base (.lst e), kitAny_cons (b := true) (kit_ty (by decide +kernel)) (by simp) (by simp)⟩
  · exact ⟨_, .base (.tup e), kitAny_cons (b := false) (kit_ty (by decide +kernel)) (fun _ => kitAny_cons (b := true) (kit_ty (by decide +kernel)) (by simp) (by simp)) (by simp)⟩
theorem w_isiLT {K : PySem.W.Frag} {H : Hp} {Q : VK} {v : V} {p : Addr} {t : Value} {b : Bool} (hp : H p = some (.tup [.ty "list", .ty "tuple"])) (ty : TyX K H v t) (k : PySem.W.kitAny K t [.type "list", .type "tuple"] = some b) (q : Q (.bl b) H) : rIsiT K [v, .ref p] H Q :=
  ⟨v, p, _, t, _, b, rfl, hp, .cons (.ty "list") (.cons (.ty "tuple") .nil), ty, k, q⟩
theorem LT.len {K : PySem.W.Frag} {H : Hp} {Q : VK} {a : Addr} {xs : List V} (h : LT H a xs) (q : Q (.int ((xs.length : Nat) : Int)) H) : rLen K [.ref a] H Q := by
  rcases h with e | e
  · exact w_lenL (SqL.of e) q
  · exact w_lenT (SqT.of e) q
theorem LT.ix {K : PySem.W.Frag} {H : Hp} {Q : VK} {a : Addr} {xs : List V} {i : Int} {v : V} (h : LT H a xs) (e : atI xs i = some v) (q : Q v H) : rIx K (.ref a) (.int i) H Q := by
  rcases h with w | w
  · exact w_ixL w e q
  · exact w_ixT w e q
theorem k_forEnLT {K : PySem.W.Frag} {g : TG} {tb : TS} {ta : TA} {σ : L2.St} {H : Hp} {a : Addr} {xs : List V} {nx bk ct : L2.St → Hp → Prop} {rt : VK} (Pv : Nat → L2.St → Hp → Prop) (h : LT H a xs) (hta : ∀ R : List V → Hp → Prop, R [.ref a] H → ta σ H R) (h0 : Pv 0 σ H) (hl : ∀ i σ' H', Pv i σ' H' → ∀ o, H a = some o → H' a = some o)
    (hs : ∀ i x σ H T H', xs[i]? = some x → Pv i σ H → H T = none → Same H H' → H' T = some (.tup [.int (i : Nat), x]) → g (.ref T) σ H' fun σ2 H2 => tb ⟨Pv (i + 1), rt, nx, Pv (i + 1)⟩ σ2 H2) (hd : ∀ σ H, Pv xs.length σ H → nx σ H) : tFor (iOr (iEnum K ta) (iEnumT K ta)) g tb ⟨nx, rt, bk, ct⟩ σ H := by
  rcases h with e | e
  · exact .inl (w_forEn (hta _ (k_forEn Pv (SqL.of e) h0 (fun i σ' H' p => SqL.of (hl i σ' H' p _ e)) hs hd)))
  · exact .inr (w_forEnT (hta _ (k_forEnT Pv (SqT.of e) h0 (fun i σ' H' p => SqT.of (hl i σ' H' p _ e)) hs hd)))
theorem k_tup2S {K : PySem.W.Frag} {T : Addr} {x y : V} {σ σ' : L2.St} {H : Hp} {i j : Nat} {N : L2.St → Hp → Prop} {n : Nat} (hT : SqT K H T [x, y]) (hn : n = 2) (hσ : (σ.set i (some x)).set j (some y) = σ') (q : N σ' H) :
    gTup K n (gCons (gName i) (gCons (gName j) gNil)) (.ref T) σ H N := by
  subst hσ
  exact ⟨T, [x, y], rfl, hT, by rw [hn]; rfl, x, _, rfl, y, [], rfl, rfl, q⟩
theorem sqT_same {K : PySem.W.Frag} {H H' : Hp} {a : Addr} {xs : List V} (h : SqT K H a xs) (s : Same H H') : SqT K H' a xs := by
  rcases h with h | h
  · refine .inl ?_
    rcases h with e | ⟨o, e⟩
    · exact .inl (s _ _ e)
    · exact .inr ⟨o, s _ _ e⟩
  · exact .inr h
/-- over a list, or over a tuple of any kind -/
theorem k_forLS {K : PySem.W.Frag} {g : TG} {tb : TS} {tl : TE} {σ : L2.St} {H : Hp} {a : Addr} {xs : List V} {nx bk ct : L2.St → Hp → Prop} {rt : VK} (Pv : Nat → L2.St → Hp → Prop) (h : H a = some (.lst xs) ∨ SqT K H a xs) (hta : ∀ R : VK, R (.ref a) H → tl σ H R) (h0 : Pv 0 σ H) (hl : ∀ i σ' H', Pv i σ' H' → Same H H')
    (hs : ∀ i x σ H, xs[i]? = some x → Pv i σ H → g x σ H fun σ2 H2 => tb ⟨Pv (i + 1), rt, nx, Pv (i + 1)⟩ σ2 H2) (hd : ∀ σ H, Pv xs.length σ H → nx σ H) : tFor (iOr (iList K tl) (iTup K tl)) g tb ⟨nx, rt, bk, ct⟩ σ H := by
  rcases h with e | e
  · exact .inl (w_forL (hta _ (k_forL Pv (SqL.of e) h0 (fun i σ' H' p => SqL.of (hl i σ' H' p _ _ e)) hs hd)))
  · exact .inr (w_forT (hta _ (k_forS Pv e h0 (fun i σ' H' p => sqT_same e (hl i σ' H' p)) hs hd)))
/-- a comprehension over a tuple of any kind -/
theorem k_lcS {K : PySem.W.Frag} {a : Addr} {xs : List V} {g : TG} {tt : TT} {te : TE} {ws : List Nat} {σ : L2.St} {H : Hp} {Q : VK} (Pv : Nat → Addr → Hp → Prop) (h : SqT K H a xs) (h0 : ∀ D, H D = none → Pv 0 D (upd H D (.lst []))) (hl : ∀ i D H', Pv i D H' → SqT K H' a xs)
    (hs : ∀ i x D H, xs[i]? = some x → Pv i D H → g x (wipe σ ws) H fun σ2 H2 => wipe σ2 ws = wipe σ ws ∧ tt σ2 H2 fun b H3 =>
      if b = true then te σ2 H3 fun y H4 => ∃ acc, H4 D = some (.lst acc) ∧ acc.length < sizeLine ∧ Pv (i + 1) D (upd H4 D (.lst (acc ++ [y]))) else Pv (i + 1) D H3) (hd : ∀ D H, Pv xs.length D H → Q (.ref D) H) : CompT K g tt te ws σ (.ref a) H Q :=
  ⟨a, rfl, ⟨_, h⟩, fun D hD => lc_tup (xs := xs) (fun i H => Pv i D H) (h0 D hD) (fun i H _ q => hl i D H q) (fun i x H hx q => hs i x D H hx q) (fun H q => hd D H q)⟩
/-- a bound -/
structure Bn where
  d : Nat
  t : Int
  r : Int
  b : Int
def Bn.ok (x : Bn) : Prop := x.d < 8 ∧ 0 < x.b ∧ Bw 1000 x.t ∧ Bw 1000 x.r ∧ Bw 1000 x.b
def BnAt (c : Addr) (H : Hp) (v : V) (x : Bn) : Prop := ∃ p y, v = .ref p ∧ H p = some (.tup [.int (x.d : Nat), y]) ∧ NumAt c H y x.t x.r x.b ∧ Sm x.t x.r x.b
theorem BnAt.same {c : Addr} {H H' : Hp} {v : V} {x : Bn} (h : BnAt c H v x) (s : Same H H') : BnAt c H' v x := by
  obtain ⟨p, y, rfl, e, n, m⟩ := h
  exact ⟨p, y, rfl, s _ _ e, n.same s, m⟩
def BnsAt (c : Addr) (H : Hp) (vs : List V) (xs : List Bn) : Prop := vs.length = xs.length ∧ ∀ (i : Nat) v x, vs[i]? = some v → xs[i]? = some x → BnAt c H v x
theorem BnsAt.same {c : Addr} {H H' : Hp} {vs : List V} {xs : List Bn} (h : BnsAt c H vs xs) (s : Same H H') : BnsAt c H' vs xs := ⟨h.1, fun i v x h1 h2 => (h.2 i v x h1 h2).same s⟩
theorem BnsAt.get {c : Addr} {H : Hp} {vs : List V} {xs : List Bn} (h : BnsAt c H vs xs) {i : Nat} {v : V} (e : vs[i]? = some v) : ∃ x, xs[i]? = some x ∧ BnAt c H v x := by
  have hi : i < xs.length := by rw [← h.1]; exact (List.getElem?_eq_some_iff.mp e).1
  exact ⟨xs[i], List.getElem?_eq_getElem hi, h.2 i v _ e (List.getElem?_eq_getElem hi)⟩
theorem BnsAt.at' {c : Addr} {H : Hp} {vs : List V} {xs : List Bn} (h : BnsAt c H vs xs) {i : Nat} {x : Bn} (e : xs[i]? = some x) : ∃ v, vs[i]? = some v ∧ BnAt c H v x := by
  have hi : i < vs.length := by rw [h.1]; exact (List.getElem?_eq_some_iff.mp e).1
  exact ⟨vs[i], List.getElem?_eq_getElem hi, h.2 i _ x (List.getElem?_eq_getElem hi) e⟩
/-- a thing that is no bound -/
def NoBn (Z : Zs) (H : Hp) (v : V) : Prop := (Plain H v ∧ isTu H v = false) ∨ (∃ p xs, v = .ref p ∧ H p = some (.tup xs) ∧ xs.length ≠ 2) ∨ ∃ p x y, v = .ref p ∧ H p = some (.tup [x, y]) ∧ Th Z.c_Root H x ∧ Th Z.c_Root H y ∧
  (isI x = false ∨ ∃ i, x = .int i ∧ (¬ (0 ≤ i ∧ i ≤ 7) ∨ 0 ≤ i ∧ i ≤ 7 ∧ isN Z.c_Root H y = false))
theorem th_isN {c : Addr} {H H' : Hp} {v : V} (h : Th c H v) (s : Same H H') : isN c H' v = isN c H v := by
  unfold isN
  congr 1
  cases h with
  | root a dx t r b e => rw [(show RootAt c H _ t r b from ⟨a, dx, rfl, e⟩).isC, (show RootAt c H' _ t r b from ⟨a, dx, rfl, s _ _ e⟩).isC]
  | lst a xs e => show (match H' a with | some (.ins C _ _) => decide (C = c) | _ => false) = (match H a with | some (.ins C _ _) => decide (C = c) | _ => false); rw [e, s _ _ e]
  | tup a xs e => show (match H' a with | some (.ins C _ _) => decide (C = c) | _ => false) = (match H a with | some (.ins C _ _) => decide (C = c) | _ => false); rw [e, s _ _ e]
  | dK a xs e => show (match H' a with | some (.ins C _ _) => decide (C = c) | _ => false) = (match H a with | some (.ins C _ _) => decide (C = c) | _ => false); rw [e, s _ _ e]
  | _ => rfl
theorem NoBn.same {Z : Zs} {H H' : Hp} {v : V} (h : NoBn Z H v) (s : Same H H') : NoBn Z H' v := by
  rcases h with ⟨pl, nt⟩ | ⟨p, xs, rfl, hp, ne⟩ | ⟨p, x, y, rfl, hp, tx, ty, hh⟩
  · exact .inl ⟨pl.same s, (isTu_same pl s).trans nt⟩
  · exact .inr (.inl ⟨p, xs, rfl, s _ _ hp, ne⟩)
  · refine .inr (.inr ⟨p, x, y, rfl, s _ _ hp, tx.same s, ty.same s, hh.imp id ?_⟩)
    rintro ⟨i, e, w⟩
    exact ⟨i, e, w.imp id fun ⟨a, b, c⟩ => ⟨a, b, (th_isN ty s).trans c⟩⟩
def BndBad (Z : Zs) (H : Hp) (v : V) (n : Int) : Prop := NoRow H v ∧ n = -1 ∨ ∃ a xs, v = .ref a ∧ LT H a xs ∧ xs.length ≤ 1000 ∧ (400 < xs.length ∧ n = -1 ∨ xs.length ≤ 400 ∧ ∃ k x, n = (k : Nat) ∧ xs[k]? = some x ∧ NoBn Z H x ∧ ∀ i y, i < k → xs[i]? = some y → ∃ z, BnAt Z.c_Root H y z ∧ z.d < 8)
def BndOk (Z : Zs) (H : Hp) (v : V) (xs : List Bn) : Prop := ∃ a vs, v = .ref a ∧ LT H a vs ∧ vs.length ≤ 400 ∧ BnsAt Z.c_Root H vs xs ∧ ∀ x ∈ xs, Bn.ok x
abbrev s_is_bound : Stmt := top 54
theorem sc_is_bound : FnScope ["thing"] ["thing"] (defScope s_is_bound) := ⟨rfl, rfl, rfl, by decide +kernel, rfl, by decide +kernel, by decide +kernel⟩

def sp_is_bound (Z : Zs) : Sp := fun vs H Q E =>
  ∃ v, vs = [v] ∧ (NoBn Z H v ∧ (∀ H', Same H H' → Q (.bl false) H') ∨ ∃ x, BnAt Z.c_Root H v x ∧ x.d < 8 ∧ ∀ H', Same H H' → Q (.bl true) H')
theorem ok_is_bound (T : Txt Z mg) (h_is_number : Has P w Z.K mg base "is_number" 2 ["thing"] (sp_is_number Z)) (h_is_integral : Has P w Z.K mg base "is_integral" 1 ["thing"] (sp_is_integral Z)) (D : AtF Z.K mg "is_bound" "is_bound" s_is_bound ["thing"]) : Has P w Z.K mg base "is_bound" 3 ["thing"] (sp_is_bound Z) := by
  refine D.ok sc_is_bound (fun vs H Q E h => ?_) (fun cdv A outer s H vs Q E hr h => ?_)
  · obtain ⟨v, rfl, _⟩ := h
    rfl
  · refine ⟨_, (pss_cons (ps_if (PW.pt (pw_or (pt_not (pt_val (pe_callB call_isi rfl T.n_isinstance (by decide +kernel) (pa_cons (pv 0) (pa_cons (pe_bltn (v := .ty "tuple") rfl T.n_tuple (by decide +kernel) rfl) pa_nil))))) (pw_or1 (pt_cmpR op_ne (pe_callB cn_len rfl T.n_len (by decide +kernel) (pa_cons (pv 0) pa_nil)) pe_int (nomark _))))) (pss_one (ps_ret pe_bl)) pss_nil)
      (pss_one (ps_ret (pe_and (pe_h (E := ED E) h_is_integral hr (paW (takes_of rfl rfl rfl rfl)) (pa_cons (pe_ix ix_seq (pv 0) pe_int (fun _ _ => rfl)) pa_nil)) (pe_and (pe_chain op_le op_le pe_int (pe_ix ix_seq (pv 0) pe_int (fun _ _ => rfl)) pe_int) (pe_one (pe_h (E := ED E) h_is_number hr (paW (takes_of rfl rfl rfl rfl)) (pa_cons (pe_ix ix_seq (pv 0) pe_int (fun _ _ => rfl)) pa_nil)))))))), ?_⟩
    try simp only [cxOf]
    obtain ⟨v, rfl, hh⟩ := h
    walk_at "W"
    rcases hh with ⟨⟨pl, nt⟩ | ⟨p, xs, rfl, e, nl⟩ | ⟨p, x, y, rfl, e, tx, ty, hh⟩, q⟩ | ⟨x, ⟨p, y, rfl, e, ny, sm⟩, d8, q⟩
    · obtain ⟨t, hty, _, _, k⟩ := pl.ty (K := Z.K)
      rw [nt] at k
      refine w_isi hty k ?_
      walk_at "W"
      exact q H (Same.refl _)
    all_goals
      obtain ⟨t, hty, _, _, k⟩ := (Plain.tup p _ e).ty (K := Z.K)
      rw [isTu_tup e] at k
      refine w_isi hty k ?_
      walk_at "W"
      refine w_lenT (SqT.of e) ?_
      walk_at "W"
    · rw [show decide (V.int ((xs.length : Nat) : Int) = V.int 2) = false from (dec_len (k := 2)).trans (decide_eq_false nl)]
      walk_at "W"
      exact q H (Same.refl _)
    · refine ⟨x, rfl, tx, ?_⟩
      rcases hh with f | ⟨i, rfl, hh⟩
      · rw [f]
        walk_at "W"
        exact q H (Same.refl _)
      walk_at "W"
      by_cases h0 : 0 ≤ i
      · rw [decide_eq_true h0]
        walk_at "W"
        by_cases h7 : i ≤ 7
        · rw [decide_eq_true h7]
          walk_at "W"
          refine ⟨y, rfl, ty, ?_⟩
          rw [(hh.resolve_left (fun z => z ⟨h0, h7⟩)).2.2]
          exact q H (Same.refl _)
        · rw [decide_eq_false h7]
          walk_at "W"
          exact q H (Same.refl _)
      · rw [decide_eq_false h0]
        walk_at "W"
        exact q H (Same.refl _)
    · refine ⟨_, rfl, (Plain.int _).thI, ?_⟩
      walk_at "W"
      rw [decide_eq_true (show (x.d : Int) ≤ 7 by omega)]
      walk_at "W"
      refine ⟨y, rfl, ny.th, ?_⟩
      rw [ny.isN]
      exact q H (Same.refl _)
abbrev s_check_bounds : Stmt := top 55
theorem sc_check_bounds : FnScope ["bounds", "index", "bound"] ["bounds"] (defScope s_check_bounds) := ⟨rfl, rfl, rfl, by decide +kernel, rfl, by decide +kernel, by decide +kernel⟩

def sp_check_bounds (Z : Zs) : Sp := fun vs H Q E =>
  ∃ v, vs = [v] ∧ ((∃ n, BndBad Z H v n ∧ ErX Z.c_BadBounds "index" (.int n) H E) ∨ ∃ xs, BndOk Z H v xs ∧ ∀ H', Same H H' → Q .non H')
theorem ok_check_bounds (T : Txt Z mg) (h_is_bound : Has P w Z.K mg base "is_bound" 3 ["thing"] (sp_is_bound Z)) (h_BadBounds : HasX P w Z.K mg base "BadBounds" Z.c_BadBounds 1 ["self", "index"] (sp_BadBounds_init Z)) (D : AtF Z.K mg "check_bounds" "check_bounds" s_check_bounds ["bounds"]) : Has P w Z.K mg base "check_bounds" 4 ["bounds"] (sp_check_bounds Z) := by
  refine D.ok sc_check_bounds (fun vs H Q E h => ?_) (fun cdv A outer s H vs Q E hr h => ?_)
  · obtain ⟨v, rfl, _⟩ := h
    rfl
  · refine ⟨_, (pss_cons (ps_if (PW.pt (pw_or (pt_not (pt_val (pe_callB call_isiT rfl T.n_isinstance (by decide +kernel) (pa_cons (pv 0) (pa_cons (pe_tup (pa_cons (pe_bltn (v := .ty "list") rfl T.n_list (by decide +kernel) rfl) (pa_cons (pe_bltn (v := .ty "tuple") rfl T.n_tuple (by decide +kernel) rfl) pa_nil))) pa_nil))))) (pw_or1 (pt_cmpR op_gt (pe_callB cn_len rfl T.n_len (by decide +kernel) (pa_cons (pv 0) pa_nil)) (C8.pe_gc (v := .int 400) rfl T.g_MOST_BOUNDS) (nomark _))))) (pss_one (ps_raise rfl (takes_of rfl rfl rfl rfl) (pm_h T.x_BadBounds h_BadBounds hr (pa_cons (pe_un un_neg pe_int) pa_nil)))) pss_nil)
      (pss_one (ps_for (passes_of rfl) rfl (pi_enumS rfl T.n_enumerate (pa_cons (pv 0) pa_nil)) (pg_tup rfl (pgs_cons (pg_name (i := 1) sc_check_bounds.nd rfl (Or.inl rfl)) (pgs_cons (pg_name (i := 2) sc_check_bounds.nd rfl (Or.inl rfl)) pgs_nil))) (pss_one (ps_if (pt_not (pt_val (pe_h (E := ED E) h_is_bound hr (paW (takes_of rfl rfl rfl rfl)) (pa_cons (pv 2) pa_nil)))) (pss_one (ps_raise rfl (takes_of rfl rfl rfl rfl) (pm_h T.x_BadBounds h_BadBounds hr (pa_cons (pv 1) pa_nil)))) pss_nil))))), ?_⟩
    try simp only [cxOf]
    obtain ⟨v, rfl, hh⟩ := h
    walk_at "W"
    refine k_tup rfl fun pt H1 hpt s1 et => ?_
    walk_at "W"
    rcases hh with ⟨n, hb | ⟨a, xs, rfl, lt, l1, hb⟩, er⟩ | ⟨bs, ⟨a, xs, rfl, lt, l1, hall, hok⟩, q⟩
    · obtain ⟨nr, rfl⟩ := hb
      obtain ⟨t, ty, k⟩ := (nr.same s1).ty (K := Z.K)
      refine w_isiLT et ty k ?_
      walk_at "W"
      exact k_mkO (er.same s1)
    all_goals
      obtain ⟨t, ty, k⟩ := (lt.same s1).ty (K := Z.K)
      refine w_isiLT et ty k ?_
      walk_at "W"
      refine (lt.same s1).len ?_
      walk_at "W"
    · rcases hb with ⟨hm, rfl⟩ | ⟨hm, k, x, rfl, hx, hno, hok⟩
      · rw [decide_eq_true (by omega)]
        walk_at "W"
        exact k_mkO (er.same s1)
      rw [decide_eq_false (by omega)]
      walk_at "W"
      have kl : k < xs.length := (List.getElem?_eq_some_iff.mp hx).1
      have body : ∀ {i : Nat} {y : V} {H2 H3 : Hp}, xs[i]? = some y → i ≤ k → Same H H2 → Same H2 H3 → (i < k ∧ (∃ z, BnAt Z.c_Root H3 y z ∧ z.d < 8) ∨ i = k ∧ NoBn Z H3 y) := fun {i y H2 H3} hy hik s2 s3 => by
        rcases Nat.lt_or_ge i k with h | h
        · obtain ⟨z, hz, d8⟩ := hok i y h hy
          exact .inl ⟨h, z, hz.same (s2.trans s3), d8⟩
        · obtain rfl : i = k := by omega
          rw [hx] at hy
          cases hy
          exact .inr ⟨rfl, hno.same (s2.trans s3)⟩
      rcases lt.same s1 with e | e
      · refine w_forOL ?_
        walk_at "W"
        refine k_forEn (xs := xs) (fun i σ' H' => i ≤ k ∧ Same H H' ∧ ∃ z1 z2, σ' = [some (.ref a), z1, z2]) (SqL.of e) ⟨Nat.zero_le _, s1, _, _, rfl⟩ (fun i σ' H' h => SqL.of (by rcases lt with w | w; exact h.2.1 _ _ w; exact absurd (e.symm.trans (s1 _ _ w)) (by simp))) ?_ ?_
        · rintro i y σ' H2 T H3 hy ⟨hik, s2, z1, z2, rfl⟩ hT s3 eT
          have bd := body hy hik s2 s3
          refine k_tupl2 eT rfl rfl ?_
          walk_at "W"
          rcases bd with ⟨hk, z, hz, d8⟩ | ⟨rfl, hn⟩
          · refine ⟨y, rfl, .inr ⟨z, hz, d8, fun H4 s4 => ?_⟩⟩
            walk_at "W"
            exact ⟨hk, s2.trans (s3.trans s4), _, _, rfl⟩
          · refine ⟨y, rfl, .inl ⟨hn, fun H4 s4 => ?_⟩⟩
            walk_at "W"
            exact k_mkO (er.same (s2.trans (s3.trans s4)))
        · rintro σ' H2 ⟨hik, _⟩
          omega
      · refine w_forOT ?_
        walk_at "W"
        refine k_forEnT (xs := xs) (fun i σ' H' => i ≤ k ∧ Same H H' ∧ ∃ z1 z2, σ' = [some (.ref a), z1, z2]) (SqT.of e) ⟨Nat.zero_le _, s1, _, _, rfl⟩ (fun i σ' H' h => SqT.of (by rcases lt with w | w; exact absurd (e.symm.trans (s1 _ _ w)) (by simp); exact h.2.1 _ _ w)) ?_ ?_
        · rintro i y σ' H2 T H3 hy ⟨hik, s2, z1, z2, rfl⟩ hT s3 eT
          have bd := body hy hik s2 s3
          refine k_tupl2 eT rfl rfl ?_
          walk_at "W"
          rcases bd with ⟨hk, z, hz, d8⟩ | ⟨rfl, hn⟩
          · refine ⟨y, rfl, .inr ⟨z, hz, d8, fun H4 s4 => ?_⟩⟩
            walk_at "W"
            exact ⟨hk, s2.trans (s3.trans s4), _, _, rfl⟩
          · refine ⟨y, rfl, .inl ⟨hn, fun H4 s4 => ?_⟩⟩
            walk_at "W"
            exact k_mkO (er.same (s2.trans (s3.trans s4)))
        · rintro σ' H2 ⟨hik, _⟩
          omega
    · rw [decide_eq_false (by omega)]
      walk_at "W"
      rcases lt.same s1 with e | e
      · refine w_forOL ?_
        walk_at "W"
        refine k_forEn (xs := xs) (fun i σ' H' => Same H H' ∧ ∃ z1 z2, σ' = [some (.ref a), z1, z2]) (SqL.of e) ⟨s1, _, _, rfl⟩ (fun i σ' H' h => SqL.of (by rcases lt with w | w; exact h.1 _ _ w; exact absurd (e.symm.trans (s1 _ _ w)) (by simp))) ?_ ?_
        · rintro i y σ' H2 T H3 hy ⟨s2, z1, z2, rfl⟩ hT s3 eT
          refine k_tupl2 eT rfl rfl ?_
          walk_at "W"
          obtain ⟨z, ez, hz⟩ := hall.get hy
          refine ⟨y, rfl, .inr ⟨z, hz.same (s2.trans s3), (hok z (List.mem_of_getElem? ez)).1, fun H4 s4 => ?_⟩⟩
          walk_at "W"
          exact ⟨s2.trans (s3.trans s4), _, _, rfl⟩
        · rintro σ' H2 ⟨s2, z1, z2, rfl⟩
          exact q H2 s2
      · refine w_forOT ?_
        walk_at "W"
        refine k_forEnT (xs := xs) (fun i σ' H' => Same H H' ∧ ∃ z1 z2, σ' = [some (.ref a), z1, z2]) (SqT.of e) ⟨s1, _, _, rfl⟩ (fun i σ' H' h => SqT.of (by rcases lt with w | w; exact absurd (e.symm.trans (s1 _ _ w)) (by simp); exact h.1 _ _ w)) ?_ ?_
        · rintro i y σ' H2 T H3 hy ⟨s2, z1, z2, rfl⟩ hT s3 eT
          refine k_tupl2 eT rfl rfl ?_
          walk_at "W"
          obtain ⟨z, ez, hz⟩ := hall.get hy
          refine ⟨y, rfl, .inr ⟨z, hz.same (s2.trans s3), (hok z (List.mem_of_getElem? ez)).1, fun H4 s4 => ?_⟩⟩
          walk_at "W"
          exact ⟨s2.trans (s3.trans s4), _, _, rfl⟩
        · rintro σ' H2 ⟨s2, z1, z2, rfl⟩
          exact q H2 s2
theorem w_app {l : Addr} {y : V} {xs : List V} {H : Hp} {Q : VK} (h : H l = some (.lst xs)) (hl : xs.length < sizeLine) (q : ∀ H2, SameX l H H2 → Kpt H H2 → H2 l = some (.lst (xs ++ [y])) → Q .non H2) : rAppend (.ref l) [y] H Q :=
  ⟨l, xs, y, rfl, rfl, h, hl, q _ (SameX.upd fun _ _ _ e => e) (Kpt.updL h) upd_same⟩
theorem few_lt {n : Nat} (h : n ≤ 83521) : n < sizeLine := by
  rw [sizeLine_eq]
  omega
theorem k_tupN {K : PySem.W.Frag} {T q : Addr} {x y z : V} {σ σ' : L2.St} {H : Hp} {i j k : Nat} {N : L2.St → Hp → Prop} {n m : Nat} (hT : H T = some (.tup [x, .ref q])) (hq : SqT K H q [y, z]) (hn : n = 2) (hm : m = 2) (hσ : ((σ.set i (some x)).set j (some y)).set k (some z) = σ') (h : N σ' H) :
    gTup K n (gCons (gName i) (gCons (gTup K m (gCons (gName j) (gCons (gName k) gNil))) gNil)) (.ref T) σ H N := by
  subst hσ
  exact ⟨T, _, rfl, SqT.of hT, by rw [hn]; rfl, x, _, rfl, .ref q, [], rfl, q, _, rfl, hq, by rw [hm]; rfl, y, _, rfl, z, [], rfl, rfl, rfl, h⟩
theorem ixN_at {n k : Nat} (h : k < n) : ixN n (k : Int) = some k := by
  unfold ixN
  rw [if_pos (by omega), if_pos (by omega)]
  rfl
def vecs : List (Int × Int) := [(1, 0), (1, 1), (0, 1), (-1, 1), (-1, 0), (-1, -1), (0, -1), (1, -1)]
def vx (d : Nat) : Int := (vecs.getD d (0, 0)).1
def vy (d : Nat) : Int := (vecs.getD d (0, 0)).2
theorem d8_cases {d : Nat} (h : d < 8) {P : Nat → Prop} (h0 : P 0) (h1 : P 1) (h2 : P 2) (h3 : P 3) (h4 : P 4) (h5 : P 5) (h6 : P 6) (h7 : P 7) : P d := by
  have : d = 0 ∨ d = 1 ∨ d = 2 ∨ d = 3 ∨ d = 4 ∨ d = 5 ∨ d = 6 ∨ d = 7 := by omega
  rcases this with rfl | rfl | rfl | rfl | rfl | rfl | rfl | rfl <;> assumption
theorem v_bw {d : Nat} (h : d < 8) : Bw 1 (vx d) ∧ Bw 1 (vy d) := by
  refine d8_cases h (P := fun d => Bw 1 (vx d) ∧ Bw 1 (vy d)) ?_ ?_ ?_ ?_ ?_ ?_ ?_ ?_ <;> (unfold Bw; exact ⟨by decide, by decide⟩)
theorem sm_int {i : Int} (h : Bw 1000 i) : Sm i 0 1 := by
  have s := Sm.low (t := i) (r := 0) (b := 1) (by decide) h (Bw.zero.mono (by decide)) (Bw.one.mono (by decide))
  obtain ⟨e1, e2, e3⟩ := low1 i
  rwa [e1, e2, e3] at s
/-- v_d . p -/
def twT (d : Nat) (t b t' b' : Int) : Int := vx d * t * b' + vy d * t' * b
theorem Sm.pos {t r b : Int} (h : Sm t r b) : 0 < b := h.lw.pos
theorem vec_at {mg : Str → Option Value} (T : Txt Z mg) : ∃ xs, (∀ H, SqT Z.K H Z.c_VECTORS xs) ∧ ∀ d, d < 8 → ∃ q, xs[d]? = some (.ref q) ∧ ∀ H, SqT Z.K H q [.int (vx d), .int (vy d)] := by
  obtain ⟨a, xs, e, hs, l, k⟩ := T.d_VECTORS.tup
  cases e
  refine ⟨xs, hs, fun d hd => ?_⟩
  have ex : ([.tuple [.int 1, .int 0], .tuple [.int 1, .int 1], .tuple [.int 0, .int 1], .tuple [.int (-1), .int 1], .tuple [.int (-1), .int 0], .tuple [.int (-1), .int (-1)], .tuple [.int 0, .int (-1)], .tuple [.int 1, .int (-1)]] : List PyData)[d]? = some (.tuple [.int (vx d), .int (vy d)]) := by
    refine d8_cases hd (P := fun d => ([.tuple [.int 1, .int 0], .tuple [.int 1, .int 1], .tuple [.int 0, .int 1], .tuple [.int (-1), .int 1], .tuple [.int (-1), .int 0], .tuple [.int (-1), .int (-1)], .tuple [.int 0, .int (-1)], .tuple [.int 1, .int (-1)]] : List PyData)[d]? = some (.tuple [.int (vx d), .int (vy d)])) ?_ ?_ ?_ ?_ ?_ ?_ ?_ ?_ <;> rfl
  obtain ⟨x, hx, kx⟩ := k d _ ex
  obtain ⟨q, rfl, hq⟩ := kx.pair
  exact ⟨q, hx, hq⟩
abbrev s_toward : Stmt := top 56
theorem sc_toward : FnScope ["d", "point", "x", "y"] ["d", "point"] (defScope s_toward) := ⟨rfl, rfl, rfl, by decide +kernel, rfl, by decide +kernel, by decide +kernel⟩

def sp_toward (Z : Zs) : Sp := fun vs H Q E =>
  ∃ (d : Nat) (p : Addr) (x y : V) (t r b t' r' b' : Int), vs = [.int d, .ref p] ∧ d < 8 ∧ H p = some (.tup [x, y]) ∧ NumAt Z.c_Root H x t r b ∧ NumAt Z.c_Root H y t' r' b' ∧ Sm t r b ∧ Sm t' r' b' ∧ Bw 400 t ∧ Bw 400 r ∧ Bw 400 b ∧ Bw 400 t' ∧ Bw 400 r' ∧ Bw 400 b' ∧
    ∀ v H', Same H H' → LowAt Z.c_Root H' v (twT d t b t' b') (twT d r b r' b') (b * b') → Q v H'
theorem ok_toward (T : Txt Z mg) (h_as_root : Has P w Z.K mg base "as_root" 5 ["number"] (sp_as_root Z)) (h_Root_add : HasM P w Z.K mg base Z.c_Root "__add__" 6 ["self", "other"] (sp_Root_add Z)) (h_Root_radd : HasM P w Z.K mg base Z.c_Root "__radd__" 7 ["self", "other"] (sp_Root_radd Z)) (h_Root_mul : HasM P w Z.K mg base Z.c_Root "__mul__" 6 ["self", "other"] (sp_Root_mul Z)) (h_Root_rmul : HasM P w Z.K mg base Z.c_Root "__rmul__" 7 ["self", "other"] (sp_Root_rmul Z)) (D : AtF Z.K mg "toward" "toward" s_toward ["d", "point"]) : Has P w Z.K mg base "toward" 8 ["d", "point"] (sp_toward Z) := by
  refine D.ok sc_toward (fun vs H Q E h => ?_) (fun cdv A outer s H vs Q E hr h => ?_)
  · obtain ⟨d, p, x, y, t, r, b, t', r', b', rfl, _⟩ := h
    rfl
  · refine ⟨_, (pss_cons (ps_asg (pe_ix ix_seq (pe_glob (v := .ref Z.c_VECTORS) rfl T.g_VECTORS rfl) (pv 0) (fun _ _ => rfl)) (pg_tup rfl (pgs_cons (pg_name (i := 2) sc_toward.nd rfl (Or.inl rfl)) (pgs_cons (pg_name (i := 3) sc_toward.nd rfl (Or.inl rfl)) pgs_nil))))
      (pss_one (ps_ret (pe_op (op_addB T.ow h_Root_add h_Root_radd hr passL) (pe_op (op_mulB T.ow h_Root_mul h_Root_rmul hr passL) (pe_h (E := ED E) h_as_root hr (paW (takes_of rfl rfl rfl rfl)) (pa_cons (pe_ix ix_seq (pv 1) pe_int (fun _ _ => rfl)) pa_nil)) (pv 2)) (pe_op (op_mulB T.ow h_Root_mul h_Root_rmul hr passL) (pe_h (E := ED E) h_as_root hr (paW (takes_of rfl rfl rfl rfl)) (pa_cons (pe_ix ix_seq (pv 1) pe_int (fun _ _ => rfl)) pa_nil)) (pv 3)))))), ?_⟩
    try simp only [cxOf]
    obtain ⟨d, p, x, y, t, r, b, t', r', b', rfl, hd, hp, hx, hy, sm, sm', wt, wr, wb, wt', wr', wb', q⟩ := h
    obtain ⟨xs, hs, hv⟩ := vec_at T
    obtain ⟨qa, hq, sq⟩ := hv d hd
    obtain ⟨v1, v2⟩ := v_bw hd
    walk_at "W"
    refine w_ixS (hs _) (atI_nat hq) ?_
    refine k_tup2S (sq _) rfl rfl ?_
    walk_at "W"
    refine ⟨x, t, r, b, rfl, hx, fun w1 H1 s1 h1 => ?_⟩
    walk_at "W"
    refine k_ownB rfl rfl (.inl h1) (.inr ⟨_, rfl, rfl, rfl, rfl⟩) (.inl h1) sm (sm_int (v1.mono (by decide))) fun w2 H2 s2 h2 => ?_
    have S2 := s1.trans s2
    have hp2 := S2 _ _ hp
    walk_at "W"
    refine ⟨y, t', r', b', rfl, hy.same S2, fun w3 H3 s3 h3 => ?_⟩
    walk_at "W"
    refine k_ownB rfl rfl (.inl h3) (.inr ⟨_, rfl, rfl, rfl, rfl⟩) (.inl h3) sm' (sm_int (v2.mono (by decide))) fun w4 H4 s4 h4 => ?_
    have p1 := sm.pos
    have p2 := sm'.pos
    have e2 : LowAt Z.c_Root H4 w2 (vx d * t) (vx d * r) b := (((LowAt.same h2 s3).same s4)).eq (by show t * vx d + 2 * r * 0 = _; grind) (by show t * 0 + r * vx d = _; grind) (by show b * 1 = b; omega)
    have e4 : LowAt Z.c_Root H4 w4 (vy d * t') (vy d * r') b' := h4.eq (by show t' * vy d + 2 * r' * 0 = _; grind) (by show t' * 0 + r' * vy d = _; grind) (by show b' * 1 = b'; omega)
    have sm1 := Sm.low (t := vx d * t) (r := vx d * r) (b := b) (by omega) ((v1.mul wt).mono (by decide)) ((v1.mul wr).mono (by decide)) (wb.mono (by decide))
    have sm2 := Sm.low (t := vy d * t') (r := vy d * r') (b := b') (by omega) ((v2.mul wt').mono (by decide)) ((v2.mul wr').mono (by decide)) (wb'.mono (by decide))
    refine k_ownB rfl rfl (.inl e2) (.inl e4) (.inl e2) sm1 sm2 fun w5 H5 s5 h5 => ?_
    exact q w5 H5 (S2.trans (s3.trans (s4.trans s5))) (low_hom hom_plus (by omega) (by omega) (Int.mul_ne_zero sm1.hn sm2.hn) h5)
/-! the least bound in each direction -/
def ltBn (x y : Bn) : Bool := decide (sgn (minus.t x.t x.r x.b y.t y.r y.b) (minus.r x.t x.r x.b y.t y.r y.b) < 0)
def leastStep (bs : List Bn) (os : List (Option Nat)) (i : Nat) (x : Bn) : List (Option Nat) := match os.getD x.d none with
  | none => os.set x.d (some i)
  | some j => match bs[j]? with
    | none => os
    | some y => if ltBn x y = true then os.set x.d (some i) else os
def leastI (bs : List Bn) : Nat → List (Option Nat)
  | 0 => List.replicate 8 none
  | n + 1 => match bs[n]? with
    | none => leastI bs n
    | some x => leastStep bs (leastI bs n) n x
def optV : Option Nat → V
  | none => .non
  | some j => .int (j : Nat)
theorem leastStep_len {bs : List Bn} {os : List (Option Nat)} {i : Nat} {x : Bn} : (leastStep bs os i x).length = os.length := by
  unfold leastStep
  split
  · exact List.length_set
  · split
    · rfl
    · split
      · exact List.length_set
      · rfl
theorem leastI_len {bs : List Bn} : ∀ {n : Nat}, (leastI bs n).length = 8
  | 0 => List.length_replicate
  | n + 1 => by
    unfold leastI
    split
    · exact leastI_len
    · rw [leastStep_len]
      exact leastI_len
theorem leastStep_or {bs : List Bn} {os : List (Option Nat)} {i : Nat} {x : Bn} : leastStep bs os i x = os ∨ leastStep bs os i x = os.set x.d (some i) := by
  unfold leastStep
  split
  · exact .inr rfl
  · split
    · exact .inl rfl
    · split
      · exact .inr rfl
      · exact .inl rfl
theorem leastI_lt {bs : List Bn} : ∀ {n : Nat} {d j : Nat}, (leastI bs n).getD d none = some j → j < n ∧ ∃ y, bs[j]? = some y ∧ y.d = d
  | 0, d, j, h => by
    unfold leastI at h
    rw [List.getD_eq_getElem?_getD, List.getElem?_replicate] at h
    split at h <;> simp at h
  | n + 1, d, j, h => by
    have ih := fun {d j} => leastI_lt (bs := bs) (n := n) (d := d) (j := j)
    unfold leastI at h
    split at h
    · obtain ⟨a, b⟩ := ih h
      exact ⟨by omega, b⟩
    · rename_i x hx
      rcases leastStep_or (bs := bs) (os := leastI bs n) (i := n) (x := x) with e | e
      · rw [e] at h
        obtain ⟨a, b⟩ := ih h
        exact ⟨by omega, b⟩
      · rw [e, List.getD_eq_getElem?_getD, List.getElem?_set] at h
        split at h
        · rename_i e
          subst e
          split at h
          · cases h
            exact ⟨by omega, x, hx, rfl⟩
          · cases h
        · rw [← List.getD_eq_getElem?_getD] at h
          obtain ⟨a, b⟩ := ih h
          exact ⟨by omega, b⟩
abbrev s_least_indexes : Stmt := top 57
theorem sc_least_indexes : FnScope ["bounds", "found", "index", "d", "number"] ["bounds"] (defScope s_least_indexes) := ⟨rfl, rfl, rfl, by decide +kernel, rfl, by decide +kernel, by decide +kernel⟩

def sp_least_indexes (Z : Zs) : Sp := fun vs H Q E =>
  ∃ a vs' bs, vs = [.ref a] ∧ LT H a vs' ∧ vs'.length ≤ 400 ∧ BnsAt Z.c_Root H vs' bs ∧ (∀ x ∈ bs, Bn.ok x) ∧ ∀ u H', H u = none → Same H H' → H' u = some (.lst ((leastI bs bs.length).map optV)) → Q (.ref u) H'
theorem ok_least_indexes (T : Txt Z mg) (h_as_root : Has P w Z.K mg base "as_root" 5 ["number"] (sp_as_root Z)) (h_Root_less : HasM P w Z.K mg base Z.c_Root "less" 6 ["self", "number"] (sp_Root_less Z)) (D : AtF Z.K mg "least_indexes" "least_indexes" s_least_indexes ["bounds"]) : Has P w Z.K mg base "least_indexes" 7 ["bounds"] (sp_least_indexes Z) := by
  refine D.ok sc_least_indexes (fun vs H Q E h => ?_) (fun cdv A outer s H vs Q E hr h => ?_)
  · obtain ⟨a, vs', bs, rfl, _⟩ := h
    rfl
  · refine ⟨_, (pss_cons (ps_set (i := 1) sc_least_indexes.nd rfl (Or.inl rfl) (pe_op op_rep (pe_lst (pa_cons pe_non pa_nil)) pe_int))
      (pss_cons (ps_for (passes_of rfl) rfl (pi_enumS rfl T.n_enumerate (pa_cons (pv 0) pa_nil)) (pg_tup rfl (pgs_cons (pg_name (i := 2) sc_least_indexes.nd rfl (Or.inl rfl)) (pgs_cons (pg_tup rfl (pgs_cons (pg_name (i := 3) sc_least_indexes.nd rfl (Or.inl rfl)) (pgs_cons (pg_name (i := 4) sc_least_indexes.nd rfl (Or.inl rfl)) pgs_nil))) pgs_nil))) (pss_one (ps_if (PW.pt (pw_or (pt_cmpR op_isN (pe_ix ix_seq (pv 1) (pv 3) (fun _ _ => rfl)) pe_non (nomark _)) (pw_or1 (pt_val (pe_hm (E := ED E) h_Root_less T.c_Root hr (paW (takes_of rfl rfl rfl rfl)) (pe_h (E := ED E) h_as_root hr (paW (takes_of rfl rfl rfl rfl)) (pa_cons (pv 4) pa_nil)) (pa_cons (pe_ix ix_seq (pe_ix ix_seq (pv 0) (pe_ix ix_seq (pv 1) (pv 3) (fun _ _ => rfl)) (fun _ _ => rfl)) pe_int (fun _ _ => rfl)) pa_nil)))))) (pss_one (ps_asg (pv 2) (pg_sub (pv 1) (pv 3) set_list))) pss_nil)))
      (pss_one (ps_ret (pv 1))))), ?_⟩
    try simp only [cxOf]
    obtain ⟨a, vs', bs, rfl, lt, l4, hb, hok, q⟩ := h
    walk_at "W"
    refine k_lst rfl fun l0 H1 hl0 s1 e1 => ?_
    walk_at "W"
    refine w_rep e1 (by decide) (by decide) rfl fun u H2 hu s2 e2 => ?_
    have e2 : H2 u = some (.lst ((leastI bs 0).map optV)) := e2
    have S2 := s1.trans s2
    have nu : ∀ {b : Addr} {o : HO}, H b = some o → b ≠ u := fun h z => by rw [z] at h; rw [s1 _ _ h] at hu; cases hu
    have keepS : ∀ {H' : Hp}, SameX u H2 H' → Same H H' := fun x b o e => x b o (nu e) (S2 _ _ e)
    have lt2 := lt.same S2
    have nau : a ≠ u := lt.elim (fun e => nu e) (fun e => nu e)
    walk_at "W"
    refine k_forEnLT (xs := vs') (fun i σ' H' => (∃ z1 z2 z3, σ' = [some (.ref a), some (.ref u), z1, z2, z3]) ∧ H' u = some (.lst ((leastI bs i).map optV)) ∧ SameX u H2 H') lt2 (fun R r => by walk_at "W"; exact r) ⟨⟨none, none, none, rfl⟩, e2, fun _ _ _ e => e⟩ (fun i σ' H' h o e => h.2.2 _ _ nau e) ?_ ?_
    · rintro i y σ' H3 T H4 hy ⟨⟨z1, z2, z3, rfl⟩, e3, x3⟩ hT s4 eT
      obtain ⟨x, ex, p, yn, rfl, ep, nn, sm⟩ := hb.get hy
      have S4 : Same H H4 := fun b o e => s4 _ _ (keepS x3 b o e)
      have xd := (hok x (List.mem_of_getElem? ex)).1
      have e4 := s4 _ _ e3
      have ll := leastI_len (bs := bs) (n := i)
      have nxt : leastI bs (i + 1) = leastStep bs (leastI bs i) i x := by
        rw [leastI, ex]
      have ix : atI ((leastI bs i).map optV) (x.d : Int) = some (optV ((leastI bs i).getD x.d none)) := atI_nat (by rw [List.getElem?_map, List.getElem?_eq_getElem (by omega), List.getD_eq_getElem?_getD, List.getElem?_eq_getElem (by omega)]; rfl)
      refine k_tupN eT (SqT.of (S4 _ _ ep)) rfl rfl rfl ?_
      walk_at "W"
      refine w_ixL e4 ix ?_
      walk_at "W"
      have stx : ∀ {H5 H6 : Hp}, Same H4 H5 → SameX u H5 H6 → H6 u = some (.lst (((leastI bs i).map optV).set x.d (.int (i : Nat)))) → leastI bs (i + 1) = (leastI bs i).set x.d (some i) → H6 u = some (.lst ((leastI bs (i + 1)).map optV)) ∧ SameX u H2 H6 := fun s5 x6 e6 e => ⟨by rw [e6, e, List.map_set]; rfl, fun b o n e => x6 _ _ n (s5 _ _ (s4 _ _ (x3 _ _ n e)))⟩
      have ixd : ixN ((leastI bs i).map optV).length (x.d : Int) = some x.d := ixN_at (by rw [List.length_map]; omega)
      cases ho : (leastI bs i).getD x.d none with
      | none =>
        try with_reducible refine L2.My.w_isN ?_
        walk_at "W"
        refine w_setL e4 ixd fun H5 x5 e5 => ?_
        exact ⟨⟨_, _, _, rfl⟩, stx (Same.refl _) x5 e5 (by rw [nxt, leastStep, ho])⟩
      | some j =>
        obtain ⟨jl, yb, ey, yd⟩ := leastI_lt ho
        obtain ⟨yv, hyv, hyb⟩ := hb.at' ey
        obtain ⟨py, yy, rfl, epy, nyy, smy⟩ := hyb
        try with_reducible refine L2.My.w_isN ?_
        walk_at "W"
        refine ⟨yn, x.t, x.r, x.b, rfl, nn.same S4, fun w H5 s5 hw => ?_⟩
        obtain ⟨aw, dw, rfl, eaw⟩ := id hw
        walk_at "W"
        have S5 := S4.trans s5
        refine k_meth eaw (rf_none (by decide +kernel) (by decide +kernel) (by decide +kernel)) ?_
        walk_at "W"
        refine w_ixL (s5 _ _ e4) (by rw [ix, ho]) ?_
        refine (lt.same S5).ix (atI_nat hyv) ?_
        walk_at "W"
        refine w_ixT (S5 _ _ epy) rfl ?_
        walk_at "W"
        refine ⟨_, yy, _, _, _, rfl, hw, sm, (nyy.same S5).th, .inr ⟨_, _, _, nyy.same S5, smy, fun H6 s6 => ?_⟩⟩
        have nl : leastI bs (i + 1) = if ltBn x yb = true then (leastI bs i).set x.d (some i) else leastI bs i := by
          rw [nxt, leastStep, ho]
          simp only [ey]
        refine ⟨_, rfl, ?_⟩
        refine w_ite (fun h => ?_) (fun h => ?_)
        · walk_at "W"
          refine w_setL ((s5.trans s6) _ _ e4) ixd fun H7 x7 e7 => ?_
          exact ⟨⟨_, _, _, rfl⟩, stx (s5.trans s6) x7 e7 (by rw [nl, if_pos (show ltBn x yb = true from decide_eq_true h)])⟩
        · walk_at "W"
          refine ⟨⟨_, _, _, rfl⟩, ?_, fun b o n e => s6 _ _ (s5 _ _ (s4 _ _ (x3 _ _ n e)))⟩
          rw [nl, if_neg (by unfold ltBn; rw [decide_eq_false h]; decide)]
          exact (s5.trans s6) _ _ e4
    · rintro σ' H3 ⟨⟨z1, z2, z3, rfl⟩, e3, x3⟩
      walk_at "W"
      rw [hb.1] at e3
      exact q u H3 (s1.free hu) (keepS x3) e3
/-- the least bounds, direction by direction -/
def leastN (bs : List Bn) : List (Option Bn) := (leastI bs bs.length).map fun o => o.bind fun j => bs[j]?
def NmAt (c : Addr) (H : Hp) (z : V) : Option Bn → Prop
  | none => z = .non
  | some x => RootAt c H z x.t x.r x.b ∧ Sm x.t x.r x.b
def NmsAt (c : Addr) (H : Hp) (zs : List V) (ns : List (Option Bn)) : Prop := zs.length = ns.length ∧ ∀ (i : Nat) z o, zs[i]? = some z → ns[i]? = some o → NmAt c H z o
theorem NmAt.same {c : Addr} {H H' : Hp} {z : V} {o : Option Bn} (h : NmAt c H z o) (s : Same H H') : NmAt c H' z o := by
  cases o with
  | none => exact h
  | some x => exact ⟨h.1.same s, h.2⟩
theorem NmAt.kps {c : Addr} {H H' : Hp} {z : V} {o : Option Bn} (h : NmAt c H z o) (s : Kps H H') : NmAt c H' z o := by
  cases o with
  | none => exact h
  | some x =>
    obtain ⟨⟨a, dx, rfl, e⟩, m⟩ := h
    exact ⟨⟨a, dx, rfl, s _ _ (by intro xs z; cases z) e⟩, m⟩
theorem NmsAt.kps {c : Addr} {H H' : Hp} {zs : List V} {ns : List (Option Bn)} (h : NmsAt c H zs ns) (s : Kps H H') : NmsAt c H' zs ns := ⟨h.1, fun i z o h1 h2 => (h.2 i z o h1 h2).kps s⟩
theorem NmsAt.add {c : Addr} {H : Hp} {zs : List V} {ns : List (Option Bn)} {z : V} {o : Option Bn} (h : NmsAt c H zs ns) (k : NmAt c H z o) : NmsAt c H (zs ++ [z]) (ns ++ [o]) := by
  refine ⟨by simp [h.1], fun i y p h1 h2 => ?_⟩
  rcases Nat.lt_trichotomy i zs.length with l | l | l
  · rw [List.getElem?_append_left l] at h1
    rw [List.getElem?_append_left (by rw [← h.1]; exact l)] at h2
    exact h.2 i y p h1 h2
  · rw [List.getElem?_append_right (by omega), l, Nat.sub_self] at h1
    rw [List.getElem?_append_right (by rw [← h.1]; omega), ← h.1, l, Nat.sub_self] at h2
    cases h1
    cases h2
    exact k
  · rw [List.getElem?_eq_none (by simp; omega)] at h1
    cases h1
abbrev s_least_numbers : Stmt := top 58
theorem sc_least_numbers : FnScope ["bounds", "index"] ["bounds"] (defScope s_least_numbers) := ⟨rfl, rfl, rfl, by decide +kernel, rfl, by decide +kernel, by decide +kernel⟩

def sp_least_numbers (Z : Zs) : Sp := fun vs H Q E =>
  ∃ a vs' bs, vs = [.ref a] ∧ LT H a vs' ∧ vs'.length ≤ 400 ∧ BnsAt Z.c_Root H vs' bs ∧ (∀ x ∈ bs, Bn.ok x) ∧ ∀ u zs H', H u = none → Same H H' → H' u = some (.lst zs) → NmsAt Z.c_Root H' zs (leastN bs) → Q (.ref u) H'
theorem ok_least_numbers (T : Txt Z mg) (h_least_indexes : Has P w Z.K mg base "least_indexes" 7 ["bounds"] (sp_least_indexes Z)) (h_as_root : Has P w Z.K mg base "as_root" 5 ["number"] (sp_as_root Z)) (D : AtF Z.K mg "least_numbers" "least_numbers" s_least_numbers ["bounds"]) : Has P w Z.K mg base "least_numbers" 8 ["bounds"] (sp_least_numbers Z) := by
  refine D.ok sc_least_numbers (fun vs H Q E h => ?_) (fun cdv A outer s H vs Q E hr h => ?_)
  · obtain ⟨a, vs', bs, rfl, _⟩ := h
    rfl
  · refine ⟨_, (pss_one (ps_ret (pe_lc (own := [("index", 1)]) (g := gName 1) rfl sc_least_numbers.nd (pi_list (pe_h (E := ED E) h_least_indexes hr (paW (takes_of rfl rfl rfl rfl)) (pa_cons (pv 0) pa_nil))) (blkOk_by (N := ["bounds", "index"]) (sc := (defScope s_least_numbers)) (by decide +kernel)) (fun _ _ _ _ _ => pg_name (i := 1) sc_least_numbers.nd rfl (Or.inl rfl)) (fun _ _ _ _ _ => pts_nil) (fun _ _ _ _ _ => (pe_ifExp (pt_cmpR op_isN (pv 1) pe_non (nomark _)) pe_non (pe_h (E := fun _ => E0) h_as_root hr pa0 (pa_cons (pe_ix (ix_seqZ (K := Z.K) rfl) (pe_ix (ix_seqZ (K := Z.K) rfl) (pv 0) (pv 1) (fun _ _ => rfl)) pe_int (fun _ _ => rfl)) pa_nil))))))), ?_⟩
    try simp only [cxOf]
    obtain ⟨a, vs', bs, rfl, lt, l4, hb, hok, q⟩ := h
    walk_at "W"
    refine ⟨a, vs', bs, rfl, lt, l4, hb, hok, fun u H1 hu s1 e1 => ?_⟩
    have ll := leastI_len (bs := bs) (n := bs.length)
    refine k_lcL (xs := (leastI bs bs.length).map optV) (fun n D H' => H1 D = none ∧ (∃ zs, H' D = some (.lst zs) ∧ NmsAt Z.c_Root H' zs ((leastN bs).take n)) ∧ Same H1 H') (SqL.of e1) (fun D hD => ⟨hD, ⟨[], upd_same, rfl, fun i z o h => by simp at h⟩, Same.new hD⟩) (fun n D H' h => SqL.of (h.2.2 _ _ e1)) ?_ ?_
    · rintro n x D H' hx ⟨hD, ⟨zs, ez, nz⟩, ss⟩
      rw [List.getElem?_map] at hx
      obtain ⟨o, ho, rfl⟩ := Option.map_eq_some_iff.mp hx
      have nl : n < 8 := by rw [← ll]; exact (List.getElem?_eq_some_iff.mp ho).1
      have hN : (leastN bs)[n]? = some (o.bind fun j => bs[j]?) := by
        unfold leastN
        rw [List.getElem?_map, ho]
        rfl
      have nz' : zs.length ≤ 8 := by rw [nz.1, List.length_take]; omega
      have go : ∀ {H5 : Hp} {z : V}, Same H' H5 → NmAt Z.c_Root H5 z (o.bind fun j => bs[j]?) → ∃ acc, H5 D = some (.lst acc) ∧ acc.length < sizeLine ∧ H1 D = none ∧ (∃ zs, (upd H5 D (.lst (acc ++ [z]))) D = some (.lst zs) ∧ NmsAt Z.c_Root (upd H5 D (.lst (acc ++ [z]))) zs ((leastN bs).take (n + 1))) ∧ Same H1 (upd H5 D (.lst (acc ++ [z]))) := fun {H5 z} s5 hz => by
        have ez5 := s5 _ _ ez
        refine ⟨zs, ez5, few_lt (by omega), hD, ⟨zs ++ [z], upd_same, ?_⟩, fun b o eb => ?_⟩
        · rw [List.take_add_one, hN]
          have kp : Kps H5 (upd H5 D (.lst (zs ++ [z]))) := Kps.sx ez5 (SameX.upd fun _ _ _ e => e)
          exact ((nz.kps (Kps.same s5)).kps kp).add (hz.kps kp)
        · rw [upd_ne (ne_of_none eb hD)]
          exact s5 _ _ (ss _ _ eb)
      refine ⟨rfl, w_yes (w_T rfl ?_)⟩
      walk_at "W"
      cases o with
      | none =>
        try with_reducible refine L2.My.w_isN ?_
        walk_at "W"
        exact go (Same.refl _) rfl
      | some j =>
        obtain ⟨jl, yb, ey, yd⟩ := leastI_lt (bs := bs) (n := bs.length) (d := n) (j := j) (by rw [List.getD_eq_getElem?_getD, ho]; rfl)
        obtain ⟨yv, hyv, py, yy, rfl, epy, nyy, smy⟩ := hb.at' ey
        have S := s1.trans ss
        try with_reducible refine L2.My.w_isN ?_
        walk_at "W"
        refine (lt.same S).ix (atI_nat hyv) ?_
        walk_at "W"
        refine w_ixT (S _ _ epy) rfl ?_
        walk_at "W"
        refine ⟨yy, _, _, _, rfl, nyy.same S, fun w H5 s5 hw => ?_⟩
        refine go s5 ?_
        rw [Option.bind_some, ey]
        exact ⟨hw, smy⟩
    · rintro D H' ⟨hD, ⟨zs, ez, nz⟩, ss⟩
      rw [List.take_of_length_le (by unfold leastN; rw [List.length_map, List.length_map]; omega)] at nz
      exact q D zs H' (s1.free hD) (s1.trans ss) ez nz
/-- the common bottom -/
def comB : List (Option Bn) → Int → Int
  | [], B => B
  | none :: ns, B => comB ns B
  | some x :: ns, B => comB ns ((B.natAbs.lcm x.b.natAbs : Nat) : Int)
def prO (B : Int) (o : Option Bn) : Option (Int × Int) := o.map fun x => (x.t * (B / x.b), x.r * (B / x.b))
def PrAt (H : Hp) (z : V) : Option (Int × Int) → Prop
  | none => z = .non
  | some p => ∃ q, z = .ref q ∧ H q = some (.tup [.int p.1, .int p.2])
def PrsAt (H : Hp) (zs : List V) (ps : List (Option (Int × Int))) : Prop := zs.length = ps.length ∧ ∀ (i : Nat) z o, zs[i]? = some z → ps[i]? = some o → PrAt H z o
theorem PrAt.kps {H H' : Hp} {z : V} {o : Option (Int × Int)} (h : PrAt H z o) (s : Kps H H') : PrAt H' z o := by
  cases o with
  | none => exact h
  | some x =>
    obtain ⟨q, rfl, e⟩ := h
    exact ⟨q, rfl, s.tup e⟩
theorem PrsAt.kps {H H' : Hp} {zs : List V} {ns : List (Option (Int × Int))} (h : PrsAt H zs ns) (s : Kps H H') : PrsAt H' zs ns := ⟨h.1, fun i z o h1 h2 => (h.2 i z o h1 h2).kps s⟩
theorem PrsAt.add {H : Hp} {zs : List V} {ns : List (Option (Int × Int))} {z : V} {o : Option (Int × Int)} (h : PrsAt H zs ns) (k : PrAt H z o) : PrsAt H (zs ++ [z]) (ns ++ [o]) := by
  refine ⟨by simp [h.1], fun i y p h1 h2 => ?_⟩
  rcases Nat.lt_trichotomy i zs.length with l | l | l
  · rw [List.getElem?_append_left l] at h1
    rw [List.getElem?_append_left (by rw [← h.1]; exact l)] at h2
    exact h.2 i y p h1 h2
  · rw [List.getElem?_append_right (by omega), l, Nat.sub_self] at h1
    rw [List.getElem?_append_right (by rw [← h.1]; omega), ← h.1, l, Nat.sub_self] at h2
    cases h1
    cases h2
    exact k
  · rw [List.getElem?_eq_none (by simp; omega)] at h1
    cases h1
def Bn.okO (o : Option Bn) : Prop := ∀ x, o = some x → Bn.ok x
theorem lcm_pos' {B b : Int} (h : 0 < B) (k : 0 < b) : 0 < ((B.natAbs.lcm b.natAbs : Nat) : Int) := by
  have := Nat.lcm_pos (m := B.natAbs) (n := b.natAbs) (by omega) (by omega)
  omega
theorem lcm_bw {n m : Nat} {B b : Int} (h : Bw n B) (k : Bw m b) : Bw (n + m) ((B.natAbs.lcm b.natAbs : Nat) : Int) := by
  unfold Bw at *
  rw [Int.natAbs_natCast, Nat.pow_add]
  exact Nat.lt_of_le_of_lt (PySem.W.mc_lcm_le _ _) (Nat.mul_lt_mul'' h k)
theorem lcm_dvd {B b : Int} : B ∣ ((B.natAbs.lcm b.natAbs : Nat) : Int) ∧ b ∣ ((B.natAbs.lcm b.natAbs : Nat) : Int) :=
  ⟨Int.natAbs_dvd_natAbs.mp (by rw [Int.natAbs_natCast]; exact Nat.dvd_lcm_left _ _), Int.natAbs_dvd_natAbs.mp (by rw [Int.natAbs_natCast]; exact Nat.dvd_lcm_right _ _)⟩
theorem comB_ok : ∀ {ns : List (Option Bn)} {B : Int}, (∀ o ∈ ns, Bn.okO o) → 0 < B → 0 < comB ns B ∧ B ∣ comB ns B ∧ ∀ x, some x ∈ ns → x.b ∣ comB ns B
  | [], B, _, h => ⟨h, Int.dvd_refl _, fun x hx => by cases hx⟩
  | none :: ns, B, ho, h => by
    obtain ⟨a, c, d⟩ := comB_ok (ns := ns) (fun o hm => ho o (List.mem_cons_of_mem _ hm)) h
    refine ⟨a, c, fun x hx => ?_⟩
    rcases List.mem_cons.mp hx with e | hx
    · cases e
    · exact d x hx
  | some y :: ns, B, ho, h => by
    have oy := ho _ (List.mem_cons_self ..) y rfl
    obtain ⟨a, c, d⟩ := comB_ok (ns := ns) (fun o hm => ho o (List.mem_cons_of_mem _ hm)) (lcm_pos' h oy.2.1)
    obtain ⟨d1, d2⟩ := lcm_dvd (B := B) (b := y.b)
    refine ⟨a, Int.dvd_trans d1 c, fun x hx => ?_⟩
    rcases List.mem_cons.mp hx with e | hx
    · cases e
      exact Int.dvd_trans d2 c
    · exact d x hx
theorem comB_bw {k : Nat} : ∀ {ns : List (Option Bn)} {B : Int} {n : Nat}, (∀ x, some x ∈ ns → Bw k x.b) → Bw n B → Bw (n + k * ns.length) (comB ns B)
  | [], B, n, _, w => w
  | none :: ns, B, n, ho, w => (comB_bw (ns := ns) (fun x hx => ho x (List.mem_cons_of_mem _ hx)) w).mono (by rw [List.length_cons, Nat.mul_succ]; omega)
  | some y :: ns, B, n, ho, w => (comB_bw (ns := ns) (fun x hx => ho x (List.mem_cons_of_mem _ hx)) (lcm_bw w (ho y (List.mem_cons_self ..)))).mono (by rw [List.length_cons, Nat.mul_succ]; omega)
theorem comB_dvd {D : Int} : ∀ {ns : List (Option Bn)} {B : Int}, (∀ x, some x ∈ ns → x.b ∣ D) → B ∣ D → comB ns B ∣ D
  | [], B, _, w => w
  | none :: ns, B, ho, w => comB_dvd (ns := ns) (fun x hx => ho x (List.mem_cons_of_mem _ hx)) w
  | some y :: ns, B, ho, w => comB_dvd (ns := ns) (fun x hx => ho x (List.mem_cons_of_mem _ hx)) (by
      have h := Nat.lcm_dvd (Int.natAbs_dvd_natAbs.mpr w) (Int.natAbs_dvd_natAbs.mpr (ho y (List.mem_cons_self ..)))
      exact Int.natAbs_dvd_natAbs.mp (by rw [Int.natAbs_natCast]; exact h))
theorem comB_append : ∀ {as bs : List (Option Bn)} {B : Int}, comB (as ++ bs) B = comB bs (comB as B)
  | [], _, _ => rfl
  | none :: as, bs, B => comB_append (as := as)
  | some y :: as, bs, B => comB_append (as := as)
theorem bw_dvd {n : Nat} {a b : Int} (h : a ∣ b) (hb : b ≠ 0) (w : Bw n b) : Bw n a :=
  Nat.lt_of_le_of_lt (Nat.le_of_dvd (Int.natAbs_pos.mpr hb) (Int.natAbs_dvd_natAbs.mpr h)) w
theorem comB_app {ns : List (Option Bn)} {o : Option Bn} : ∀ {ms : List (Option Bn)} {B : Int}, ms = ns ++ [o] → comB ms B = (match o with | none => comB ns B | some x => ((((comB ns B).natAbs.lcm x.b.natAbs : Nat)) : Int)) := by
  induction ns with
  | nil =>
    intro ms B e
    subst e
    cases o <;> rfl
  | cons p ns ih =>
    intro ms B e
    subst e
    cases p with
    | none => exact ih (ms := ns ++ [o]) (B := B) rfl
    | some y => exact ih (ms := ns ++ [o]) (B := _) rfl
abbrev s_over_common : Stmt := top 59
theorem sc_over_common : FnScope ["numbers", "bottom", "number", "pairs", "by"] ["numbers"] (defScope s_over_common) := ⟨rfl, rfl, rfl, by decide +kernel, rfl, by decide +kernel, by decide +kernel⟩

def sp_over_common (Z : Zs) : Sp := fun vs H Q E =>
  ∃ a zs ns, vs = [.ref a] ∧ H a = some (.lst zs) ∧ NmsAt Z.c_Root H zs ns ∧ zs.length = 8 ∧ (∀ o ∈ ns, Bn.okO o) ∧ Bw 530 (comB ns 1) ∧ ∀ u l ys H', Same H H' → H' u = some (.tup [.int (comB ns 1), .ref l]) → H' l = some (.lst ys) → PrsAt H' ys (ns.map (prO (comB ns 1))) → Q (.ref u) H'
theorem ok_over_common (T : Txt Z mg)  (D : AtF Z.K mg "over_common" "over_common" s_over_common ["numbers"]) : Has P w Z.K mg base "over_common" 1 ["numbers"] (sp_over_common Z) := by
  refine D.ok sc_over_common (fun vs H Q E h => ?_) (fun cdv A outer s H vs Q E hr h => ?_)
  · obtain ⟨a, zs, ns, rfl, _⟩ := h
    rfl
  · refine ⟨_, (pss_cons (ps_set (i := 1) sc_over_common.nd rfl (Or.inl rfl) pe_int)
      (pss_cons (ps_for (passes_of rfl) rfl (pi_list (pv 0)) (pg_name (i := 2) sc_over_common.nd rfl (Or.inl rfl)) (pss_one (ps_if (pt_cmpR op_notN (pv 2) pe_non (nomark _)) (pss_one (ps_set (i := 1) sc_over_common.nd rfl (Or.inl rfl) (pe_callBfun cr_lcmW rfl T.g_lcm (pa_cons (pv 1) (pa_cons (pe_fld (pv 2) rfl) pa_nil))))) pss_nil)))
      (pss_cons (ps_set (i := 3) sc_over_common.nd rfl (Or.inl rfl) (pe_lst pa_nil))
      (pss_cons (ps_for (passes_of rfl) rfl (pi_list (pv 0)) (pg_name (i := 2) sc_over_common.nd rfl (Or.inl rfl)) (pss_one (ps_if (pt_cmpR op_isN (pv 2) pe_non (nomark _)) (pss_one (ps_expr (pe_bm PySem.F.plainAttrs_list PySem.F.slot_list_append PySem.F.type_list_append mt_append (pv 3) (pa_cons pe_non pa_nil)))) (pss_cons (ps_set (i := 4) sc_over_common.nd rfl (Or.inl rfl) (pe_op op_fdivW (pv 1) (pe_fld (pv 2) rfl)))
      (pss_one (ps_expr (pe_bm PySem.F.plainAttrs_list PySem.F.slot_list_append PySem.F.type_list_append mt_append (pv 3) (pa_cons (pe_tup (pa_cons (pe_op op_mulS (pe_fld (pv 2) rfl) (pv 4)) (pa_cons (pe_op op_mulS (pe_fld (pv 2) rfl) (pv 4)) pa_nil))) pa_nil))))))))
      (pss_one (ps_ret (pe_tup (pa_cons (pv 1) (pa_cons (pv 3) pa_nil))))))))), ?_⟩
    try simp only [cxOf]
    obtain ⟨a, zs, ns, rfl, ea, hn, hl, ok, B2, q⟩ := h
    walk_at "W"
    have l8 : ns.length = 8 := by rw [← hn.1]; exact hl
    have okt : ∀ i, ∀ o ∈ ns.take i, Bn.okO o := fun i o ho => ok o (List.mem_of_mem_take ho)
    have nxB : ∀ {i : Nat} {o : Option Bn}, ns[i]? = some o → comB (ns.take (i + 1)) 1 = (match o with | none => comB (ns.take i) 1 | some x => ((((comB (ns.take i) 1).natAbs.lcm x.b.natAbs : Nat)) : Int)) := fun {i o} ho => comB_app (ns := ns.take i) (o := o) (by rw [List.take_add_one, ho]; rfl)
    refine k_forL (xs := zs) (fun i σ' H' => (∃ z, σ' = [some (.ref a), some (.int (comB (ns.take i) 1)), z, none, none]) ∧ H' = H) (SqL.of ea) ⟨⟨none, rfl⟩, rfl⟩ (fun i σ' H' h => by obtain ⟨_, rfl⟩ := h; exact SqL.of ea) ?_ ?_
    · rintro i x σ' H' hx ⟨⟨z, rfl⟩, rfl⟩
      obtain ⟨o, ho⟩ : ∃ o, ns[i]? = some o := ⟨_, List.getElem?_eq_getElem (by have := (List.getElem?_eq_some_iff.mp hx).1; omega)⟩
      have hz := hn.2 i x o hx ho
      have nb := nxB ho
      walk_at "W"
      cases o with
      | none =>
        obtain rfl : x = .non := hz
        try with_reducible refine L2.My.w_isN ?_
        walk_at "W"
        exact ⟨⟨_, by rw [nb]⟩, rfl⟩
      | some y =>
        obtain ⟨⟨ax, dx, rfl, ex⟩, sm⟩ := hz
        have oy := ok _ (List.mem_of_getElem? ho) y rfl
        obtain ⟨b1, -, -⟩ := comB_ok (okt i) (B := 1) (by decide)
        have b2 : Bw 530 (comB (ns.take i) 1) := by
          have e : comB ns 1 = comB (ns.drop i) (comB (ns.take i) 1) := by rw [← comB_append, List.take_append_drop]
          obtain ⟨c1, c2, -⟩ := comB_ok (ns := ns.drop i) (B := comB (ns.take i) 1) (fun o ho => ok o (List.mem_of_mem_drop ho)) b1
          rw [← e] at c1 c2
          exact bw_dvd c2 (by omega) B2
        try with_reducible refine L2.My.w_isN ?_
        walk_at "W"
        refine w_fld ex T.c_Root T.nf_bottom (rf_bottom _ _ _) ?_
        walk_at "W"
        refine ⟨_, _, rfl, b2.mono (by decide), oy.2.2.2.2.mono (by decide), ?_⟩
        walk_at "W"
        exact ⟨⟨_, by rw [nb]⟩, rfl⟩
    rintro σ' H' ⟨⟨z, rfl⟩, rfl⟩
    rw [List.take_of_length_le (by omega)]
    obtain ⟨B1, -, B4⟩ := comB_ok ok (B := 1) (by decide)
    generalize hB : comB ns 1 = B at *
    walk_at "W"
    refine k_lst rfl fun l H1 hl1 s1 e1 => ?_
    walk_at "W"
    have nal : a ≠ l := fun z => by rw [← z, ea] at hl1; cases hl1
    refine k_forL (xs := zs) (fun i σ' H' => (∃ z1 z2, σ' = [some (.ref a), some (.int B), z1, some (.ref l), z2]) ∧ SameX l H1 H' ∧ Kps H1 H' ∧ ∃ ys, H' l = some (.lst ys) ∧ PrsAt H' ys ((ns.map (prO B)).take i)) (SqL.of (s1 _ _ ea)) ⟨⟨_, _, rfl⟩, fun _ _ _ e => e, Kps.refl _, [], e1, rfl, fun i z o h => by simp at h⟩ (fun i σ' H' h => SqL.of (h.2.1 _ _ nal (s1 _ _ ea))) ?_ ?_
    · rintro i x σ' H2 hx ⟨⟨z1, z2, rfl⟩, x2, k2, ys, e2, py⟩
      obtain ⟨o, ho⟩ : ∃ o, ns[i]? = some o := ⟨_, List.getElem?_eq_getElem (by have := (List.getElem?_eq_some_iff.mp hx).1; omega)⟩
      have hz := (hn.2 i x o hx ho).kps ((Kps.same s1).trans k2)
      have ly : ys.length ≤ 8 := by rw [py.1, List.length_take, List.length_map]; omega
      have hp : (ns.map (prO B))[i]? = some (prO B o) := by rw [List.getElem?_map, ho]; rfl
      have go : ∀ {H3 : Hp} {z : V} {z2 : Option V}, Same H2 H3 → PrAt H3 z (prO B o) → rAppend (.ref l) [z] H3 fun _ H' => (∃ z1 z2', [some (V.ref a), some (.int B), some x, some (.ref l), z2] = [some (V.ref a), some (.int B), z1, some (.ref l), z2']) ∧ SameX l H1 H' ∧ Kps H1 H' ∧ ∃ ys, H' l = some (.lst ys) ∧ PrsAt H' ys ((ns.map (prO B)).take (i + 1)) := fun {H3 z z2} s3 hz => by
        refine w_app (s3 _ _ e2) (few_lt (by omega)) fun H4 x4 k4 e4 => ⟨⟨_, _, rfl⟩, x2.trans ((Same.x s3).trans x4), k2.trans ((Kps.same s3).trans (Kps.sx (s3 _ _ e2) x4)), _, e4, ?_⟩
        rw [List.take_add_one, hp]
        exact ((py.kps (Kps.same s3)).kps (Kps.sx (s3 _ _ e2) x4)).add (hz.kps (Kps.sx (s3 _ _ e2) x4))
      walk_at "W"
      cases o with
      | none =>
        obtain rfl : x = .non := hz
        try with_reducible refine L2.My.w_isN ?_
        walk_at "W"
        refine k_bm e2 ?_
        walk_at "W"
        exact go (Same.refl _) rfl
      | some y =>
        obtain ⟨⟨ax, dx, rfl, ex⟩, sm⟩ := hz
        have oy := ok _ (List.mem_of_getElem? ho) y rfl
        have wby : Bw 530 (B / y.b) := bw_div (s := y.b) B2 (by
          obtain ⟨k, hk⟩ := B4 y (List.mem_of_getElem? ho)
          rw [hk, Int.mul_ediv_cancel_left _ (by have := oy.2.1; omega), Int.mul_comm]) (by have := oy.2.1; omega)
        try with_reducible refine L2.My.w_isN ?_
        walk_at "W"
        refine w_fld ex T.c_Root T.nf_bottom (rf_bottom _ _ _) ?_
        refine w_I (wide_div oy.2.1 (oy.2.2.2.2.bd (by decide)) (by decide) (by decide)) ?_
        walk_at "W"
        refine k_bm e2 ?_
        walk_at "W"
        refine w_fld ex T.c_Root T.nf_top (rf_top _ _ _) ?_
        walk_at "W"
        refine w_I (bwm oy.2.2.1 wby (by decide)) ?_
        walk_at "W"
        refine w_fld ex T.c_Root T.nf_root (rf_root _ _ _) ?_
        walk_at "W"
        refine w_I (bwm oy.2.2.2.1 wby (by decide)) ?_
        walk_at "W"
        refine k_tup rfl fun q H3 hq s3 e3 => ?_
        walk_at "W"
        exact go s3 ⟨q, rfl, e3⟩
    · rintro σ' H2 ⟨⟨z1, z2, rfl⟩, x2, k2, ys, e2, py⟩
      rw [List.take_of_length_le (by rw [List.length_map]; omega)] at py
      walk_at "W"
      refine k_tup rfl fun u H3 hu s3 e3 => ?_
      exact q u l ys H3 (fun b o e => s3 _ _ (x2 b o (fun z => by rw [z, hl1] at e; cases e) (s1 _ _ e))) e3 (s3 _ _ e2) (py.kps (Kps.same s3))
local macro_rules | `(tactic| walk_at "s") => `(tactic| first | with_reducible refine L2.My.w_forOLT ?_)
def evenP : List (Int × List (Int × Int)) := [(1, [(0, 1)]), (2, [(1, 1), (7, 1)]), (1, [(2, 1), (7, 1)]), (1, [(1, 1), (6, 1)])]
def oddP : List (Int × List (Int × Int)) := [(1, [(1, 1)]), (1, [(0, 1), (2, 1)]), (1, [(0, 2), (3, 1)]), (1, [(2, 2), (7, 1)])]
def barC : List (List (Int × Int)) := [[(0, 1), (4, 1)], [(1, 1), (5, 1)], [(2, 1), (6, 1)], [(3, 1), (7, 1)], [(0, 1), (3, 1), (6, 1)], [(1, 1), (4, 2), (7, 1)], [(0, 1), (2, 1), (5, 1)], [(1, 1), (3, 1), (6, 2)], [(2, 1), (4, 1), (7, 1)], [(0, 2), (3, 1), (5, 1)], [(1, 1), (4, 1), (6, 1)], [(2, 2), (5, 1), (7, 1)]]
def turnP (by' : Int) (p : Int × List (Int × Int)) : Int × List (Int × Int) := (p.1, p.2.map fun q => ((q.1 + by') % 8, q.2))
def pressD (d : Nat) : List (Int × List (Int × Int)) := (if d % 2 = 1 then oddP else evenP).map (turnP ((d : Int) - (d : Int) % 2))
def prD (p : Int × Int) : PyData := .tuple [.int p.1, .int p.2]
def ptD (l : List (Int × Int)) : PyData := .tuple (l.map prD)
def psD (p : Int × List (Int × Int)) : PyData := .tuple [.int p.1, ptD p.2]
/-- parts of a sum: directions and times -/
def PartsAt (K : PySem.W.Frag) (H : Hp) (v : V) (l : List (Int × Int)) : Prop := ∃ a xs, v = .ref a ∧ (H a = some (.lst xs) ∨ SqT K H a xs) ∧ xs.length = l.length ∧ ∀ (i : Nat) x p, xs[i]? = some x → l[i]? = some p → ∃ q, x = .ref q ∧ SqT K H q [.int (p : Int × Int).1, .int p.2]
theorem PartsAt.same {K : PySem.W.Frag} {H H' : Hp} {v : V} {l : List (Int × Int)} (h : PartsAt K H v l) (s : Same H H') : PartsAt K H' v l := by
  obtain ⟨a, xs, rfl, e, hl, k⟩ := h
  refine ⟨a, xs, rfl, e.imp (s _ _) (fun e => sqT_same e s), hl, fun i x p h1 h2 => ?_⟩
  obtain ⟨q, rfl, e⟩ := k i x p h1 h2
  exact ⟨q, rfl, sqT_same e s⟩
theorem kd_parts {K : PySem.W.Frag} {n : Nat} {v : V} {l : List (Int × Int)} (h : KD K (n + 3) v (ptD l)) (H : Hp) : PartsAt K H v l := by
  obtain ⟨a, xs, rfl, hs, hl, k⟩ := h.tup
  refine ⟨a, xs, rfl, .inr (hs H), by rw [hl, List.length_map], fun i x p h1 h2 => ?_⟩
  obtain ⟨y, hy, ky⟩ := k i (prD p) (by rw [List.getElem?_map, h2]; rfl)
  rw [hy] at h1
  cases h1
  obtain ⟨q, rfl, hq⟩ := ky.pair
  exact ⟨q, rfl, hq H⟩
def psum (ps : List (Option (Int × Int))) : List (Int × Int) → Int × Int → Option (Int × Int)
  | [], acc => some acc
  | p :: l, acc => match ps.getD p.1.toNat none with
    | none => none
    | some q => psum ps l (acc.1 + p.2 * q.1, acc.2 + p.2 * q.2)
def PrsOk (ps : List (Option (Int × Int))) : Prop := ps.length = 8 ∧ ∀ o ∈ ps, ∀ q, o = some q → Bw 980 q.1 ∧ Bw 980 q.2
def PtsOk (l : List (Int × Int)) : Prop := l.length ≤ 3 ∧ ∀ p ∈ l, 0 ≤ p.1 ∧ p.1 ≤ 7 ∧ 0 ≤ p.2 ∧ p.2 ≤ 2
theorem psum_bw {ps : List (Option (Int × Int))} (hp : PrsOk ps) : ∀ {l : List (Int × Int)} {acc r : Int × Int} {n : Nat}, (∀ p ∈ l, 0 ≤ p.1 ∧ p.1 ≤ 7 ∧ 0 ≤ p.2 ∧ p.2 ≤ 2) → 983 ≤ n → Bw n acc.1 → Bw n acc.2 → psum ps l acc = some r → Bw (n + l.length) r.1 ∧ Bw (n + l.length) r.2
  | [], acc, r, n, _, _, h1, h2, e => by
    cases e
    exact ⟨h1, h2⟩
  | p :: l, acc, r, n, ho, hn, h1, h2, e => by
    rw [psum] at e
    cases hq : ps.getD p.1.toNat none with
    | none => rw [hq] at e; cases e
    | some q =>
      rw [hq] at e
      have mq : some q ∈ ps := by
        rw [List.getD_eq_getElem?_getD] at hq
        cases hx : ps[p.1.toNat]? with
        | none => rw [hx] at hq; cases hq
        | some o => rw [hx] at hq; rw [← show o = some q from hq]; exact List.mem_of_getElem? hx
      obtain ⟨b1, b2⟩ := hp.2 _ mq q rfl
      obtain ⟨-, -, w0, w2⟩ := ho p (List.mem_cons_self ..)
      have wp : Bw 2 p.2 := by unfold Bw; omega
      have c1 : Bw (n + 1) (acc.1 + p.2 * q.1) := (h1.add ((wp.mul b1).mono (show 2 + 980 ≤ n by omega))).mono (show max n n + 1 ≤ n + 1 by omega)
      have c2 : Bw (n + 1) (acc.2 + p.2 * q.2) := (h2.add ((wp.mul b2).mono (show 2 + 980 ≤ n by omega))).mono (show max n n + 1 ≤ n + 1 by omega)
      obtain ⟨d1, d2⟩ := psum_bw hp (n := n + 1) (fun p hm => ho p (List.mem_cons_of_mem _ hm)) (by omega) c1 c2 e
      rw [List.length_cons, show n + (l.length + 1) = n + 1 + l.length by omega]
      exact ⟨d1, d2⟩
abbrev s_pair_sum : Stmt := top 61
theorem sc_pair_sum : FnScope ["parts", "pairs", "top", "root", "d", "weight"] ["parts", "pairs"] (defScope s_pair_sum) := ⟨rfl, rfl, rfl, by decide +kernel, rfl, by decide +kernel, by decide +kernel⟩

def sp_pair_sum (Z : Zs) : Sp := fun vs H Q E =>
  ∃ v lp ys ps l, vs = [v, .ref lp] ∧ PartsAt Z.K H v l ∧ H lp = some (.lst ys) ∧ PrsAt H ys ps ∧ PrsOk ps ∧ PtsOk l ∧ (psum ps l (0, 0) = none → ∀ H', Same H H' → Q .non H') ∧ ∀ p, psum ps l (0, 0) = some p → ∀ u H', Same H H' → H' u = some (.tup [.int (p : Int × Int).1, .int p.2]) → Q (.ref u) H'
theorem ok_pair_sum (T : Txt Z mg)  (D : AtF Z.K mg "pair_sum" "pair_sum" s_pair_sum ["parts", "pairs"]) : Has P w Z.K mg base "pair_sum" 1 ["parts", "pairs"] (sp_pair_sum Z) := by
  refine D.ok sc_pair_sum (fun vs H Q E h => ?_) (fun cdv A outer s H vs Q E hr h => ?_)
  · obtain ⟨v, lp, ys, ps, l, rfl, _⟩ := h
    rfl
  · refine ⟨_, (pss_cons (ps_set (i := 2) sc_pair_sum.nd rfl (Or.inl rfl) pe_int)
      (pss_cons (ps_set (i := 3) sc_pair_sum.nd rfl (Or.inl rfl) pe_int)
      (pss_cons (ps_for (passes_of rfl) rfl (pi_seq (pv 0)) (pg_tup rfl (pgs_cons (pg_name (i := 4) sc_pair_sum.nd rfl (Or.inl rfl)) (pgs_cons (pg_name (i := 5) sc_pair_sum.nd rfl (Or.inl rfl)) pgs_nil))) (pss_cons (ps_if (pt_cmpR op_isN (pe_ix ix_seq (pv 1) (pv 4) (fun _ _ => rfl)) pe_non (nomark _)) (pss_one (ps_ret pe_non)) pss_nil)
      (pss_cons (ps_set (i := 2) sc_pair_sum.nd rfl (Or.inl rfl) (pe_op op_add (pv 2) (pe_op op_mulS (pv 5) (pe_ix ix_seq (pe_ix ix_seq (pv 1) (pv 4) (fun _ _ => rfl)) pe_int (fun _ _ => rfl)))))
      (pss_one (ps_set (i := 3) sc_pair_sum.nd rfl (Or.inl rfl) (pe_op op_add (pv 3) (pe_op op_mulS (pv 5) (pe_ix ix_seq (pe_ix ix_seq (pv 1) (pv 4) (fun _ _ => rfl)) pe_int (fun _ _ => rfl)))))))))
      (pss_one (ps_ret (pe_tup (pa_cons (pv 2) (pa_cons (pv 3) pa_nil)))))))), ?_⟩
    try simp only [cxOf]
    obtain ⟨v, lp, ys, ps, l, rfl, ⟨a, xs, rfl, ea, hl, hx⟩, el, py, pk, tk, q1, q2⟩ := h
    walk_at "W"
    refine k_forLS (xs := xs) (fun i σ' H' => (∃ acc z1 z2, σ' = [some (.ref a), some (.ref lp), some (.int (acc : Int × Int).1), some (.int acc.2), z1, z2] ∧ psum ps l (0, 0) = psum ps (l.drop i) acc) ∧ H' = H) ea (fun R r => by walk_at "W"; exact r) ⟨⟨(0, 0), none, none, rfl, rfl⟩, rfl⟩ (fun i σ' H' h => by rw [h.2]; exact Same.refl _) ?_ ?_
    · rintro i x σ' H' hxi ⟨⟨acc, z1, z2, rfl, es⟩, rfl⟩
      have il : i < l.length := by rw [← hl]; exact (List.getElem?_eq_some_iff.mp hxi).1
      have ep := List.getElem?_eq_getElem il
      obtain ⟨q, rfl, hq⟩ := hx i x _ hxi ep
      obtain ⟨p0, p7, w0, w2⟩ := tk.2 _ (List.getElem_mem il)
      rw [List.drop_eq_getElem_cons il] at es
      generalize l[i] = p at *
      obtain ⟨n, hn⟩ : ∃ n : Nat, p.1 = (n : Int) := ⟨p.1.toNat, by omega⟩
      have n8 : n < ys.length := by rw [py.1, pk.1]; omega
      have hy := List.getElem?_eq_getElem n8
      have ho : ps[n]? = some (ps[n]'(by rw [← py.1]; exact n8)) := List.getElem?_eq_getElem _
      have pz := py.2 n _ _ hy ho
      rw [psum, hn, Int.toNat_natCast, List.getD_eq_getElem?_getD, ho, Option.getD_some] at es
      have wo := pk.2 _ (List.mem_of_getElem? ho)
      generalize ps[n]'_ = o at *
      generalize ys[n] = y at *
      have ix : atI ys p.1 = some y := by rw [hn]; exact atI_nat hy
      refine k_tup2S hq rfl rfl ?_
      walk_at "W"
      refine w_ixL el ix ?_
      walk_at "W"
      cases o with
      | none =>
        obtain rfl : y = .non := pz
        try with_reducible refine L2.My.w_isN ?_
        walk_at "W"
        exact q1 es H' (Same.refl _)
      | some r =>
        obtain ⟨qr, rfl, er⟩ := pz
        try with_reducible refine L2.My.w_isN ?_
        walk_at "W"
        refine w_ixL el ix ?_
        walk_at "W"
        refine w_ixL el ix ?_
        walk_at "W"
        exact ⟨⟨_, _, _, rfl, es⟩, rfl⟩
    · rintro σ' H' ⟨⟨acc, z1, z2, rfl, es⟩, rfl⟩
      rw [hl, List.drop_length, psum] at es
      walk_at "W"
      exact k_tup rfl fun u H1 hu s1 e1 => q2 acc es u H1 s1 e1
def PaK (K : PySem.W.Frag) (y : V) (l : List (Int × Int)) : Prop := ∃ a xs, y = .ref a ∧ (∀ H, SqT K H a xs) ∧ xs.length = l.length ∧ ∀ (i : Nat) p, l[i]? = some p → ∃ q, xs[i]? = some (.ref q) ∧ ∀ H, SqT K H q [.int (p : Int × Int).1, .int p.2]
theorem kd_paK {K : PySem.W.Frag} {n : Nat} {v : V} {l : List (Int × Int)} (h : KD K (n + 3) v (ptD l)) : PaK K v l := by
  obtain ⟨a, xs, rfl, hs, hl, k⟩ := h.tup
  refine ⟨a, xs, rfl, hs, by rw [hl, List.length_map], fun i p h2 => ?_⟩
  obtain ⟨y, hy, ky⟩ := k i (prD p) (by rw [List.getElem?_map, h2]; rfl)
  obtain ⟨q, rfl, hq⟩ := ky.pair
  exact ⟨q, hy, hq⟩
def PsK (K : PySem.W.Frag) (v : V) (l : List (Int × List (Int × Int))) : Prop := ∃ a xs, v = .ref a ∧ (∀ H, SqT K H a xs) ∧ xs.length = l.length ∧ ∀ (i : Nat) p, l[i]? = some p → ∃ q y, xs[i]? = some (.ref q) ∧ (∀ H, SqT K H q [.int (p : Int × List (Int × Int)).1, y]) ∧ PaK K y p.2
theorem kd_psK {K : PySem.W.Frag} {n : Nat} {v : V} {l : List (Int × List (Int × Int))} (h : KD K (n + 5) v (.tuple (l.map psD))) : PsK K v l := by
  obtain ⟨a, xs, rfl, hs, hl, k⟩ := h.tup
  refine ⟨a, xs, rfl, hs, by rw [hl, List.length_map], fun i p h2 => ?_⟩
  obtain ⟨y, hy, ky⟩ := k i (psD p) (by rw [List.getElem?_map, h2]; rfl)
  obtain ⟨q, zs, rfl, hq, hz, kz⟩ := KD.tup (ds := [.int p.1, ptD p.2]) ky
  obtain ⟨z0, h0, k0⟩ := kz 0 _ rfl
  obtain ⟨z1, h1, k1⟩ := kz 1 _ rfl
  match zs, hz with
  | [b, c], _ =>
    cases h0
    cases h1
    rw [KD.int k0] at hq
    exact ⟨q, _, hy, hq, kd_paK k1⟩
theorem sqT_kps {K : PySem.W.Frag} {H H' : Hp} {a : Addr} {xs : List V} (h : SqT K H a xs) (s : Kps H H') : SqT K H' a xs := by
  rcases h with h | h
  · refine .inl ?_
    rcases h with e | ⟨o, e⟩
    · exact .inl (s _ _ (by simp) e)
    · exact .inr ⟨o, s _ _ (by simp) e⟩
  · exact .inr h
theorem PartsAt.upd {K : PySem.W.Frag} {H : Hp} {v : V} {l : List (Int × Int)} {D : Addr} {zs zs' : List V} (h : PartsAt K H v l) (hn : v ≠ .ref D) (hD : H D = some (.lst zs)) : PartsAt K (L2.upd H D (.lst zs')) v l := by
  obtain ⟨a, xs, rfl, e, hl, k⟩ := h
  have kp : Kps H (L2.upd H D (.lst zs')) := Kps.sx hD (SameX.upd fun _ _ _ e => e)
  refine ⟨a, xs, rfl, e.imp (fun e => ?_) (fun e => sqT_kps e kp), hl, fun i x p h1 h2 => ?_⟩
  · rw [upd_ne (fun z => hn (by rw [z]))]
    exact e
  · obtain ⟨q, rfl, e⟩ := k i x p h1 h2
    exact ⟨q, rfl, sqT_kps e kp⟩
def basP (d : Nat) : List (Int × List (Int × Int)) := if d % 2 = 1 then oddP else evenP
theorem basP_few {d : Nat} : (basP d).length = 4 ∧ ∀ p ∈ basP d, p.2.length ≤ 2 := by
  unfold basP
  split <;> exact ⟨rfl, by decide⟩
abbrev s_presses_on : Stmt := top 60
theorem sc_presses_on : FnScope ["d", "presses", "by", "weight", "parts", "way", "times"] ["d"] (defScope s_presses_on) := ⟨rfl, rfl, rfl, by decide +kernel, rfl, by decide +kernel, by decide +kernel⟩

def sp_presses_on (Z : Zs) : Sp := fun vs H Q E =>
  ∃ d : Nat, vs = [.int d] ∧ d < 8 ∧ ∀ u xs H', H u = none → Same H H' → H' u = some (.lst xs) → xs.length = (pressD d).length → (∀ (i : Nat) x p, xs[i]? = some x → (pressD d)[i]? = some p → ∃ q y, x = .ref q ∧ H' q = some (.tup [.int (p : Int × List (Int × Int)).1, y]) ∧ PartsAt Z.K H' y p.2) → Q (.ref u) H'
theorem ok_presses_on (T : Txt Z mg)  (D : AtF Z.K mg "presses_on" "presses_on" s_presses_on ["d"]) : Has P w Z.K mg base "presses_on" 1 ["d"] (sp_presses_on Z) := by
  refine D.ok sc_presses_on (fun vs H Q E h => ?_) (fun cdv A outer s H vs Q E hr h => ?_)
  · obtain ⟨d, rfl, _⟩ := h
    rfl
  · refine ⟨_, (pss_cons (ps_set (i := 1) sc_presses_on.nd rfl (Or.inl rfl) (pe_ifExp (pt_cmpR op_eq (pe_op op_mod (pv 0) pe_int) pe_int (nomark _)) (pe_glob (v := .ref Z.c_ODD_PRESSES) rfl T.g_ODD_PRESSES rfl) (pe_glob (v := .ref Z.c_EVEN_PRESSES) rfl T.g_EVEN_PRESSES rfl)))
      (pss_cons (ps_set (i := 2) sc_presses_on.nd rfl (Or.inr rfl) (pe_op op_sub (pv 0) (pe_op op_mod (pv 0) pe_int)))
      (pss_one (ps_ret (pe_lc (own := [("weight", 3), ("parts", 4)]) (g := gTup Z.K 2 (gCons (gName 3) (gCons (gName 4) gNil))) rfl sc_presses_on.nd (pi_tup (pv 1)) (blkOk_by (N := ["d", "presses", "by", "weight", "parts", "way", "times"]) (sc := (defScope s_presses_on)) (by decide +kernel)) (fun _ _ _ _ _ => pg_tup rfl (pgs_cons (pg_name (i := 3) sc_presses_on.nd rfl (Or.inl rfl)) (pgs_cons (pg_name (i := 4) sc_presses_on.nd rfl (Or.inl rfl)) pgs_nil))) (fun _ _ _ _ _ => pts_nil) (fun _ _ _ _ _ => (pe_tup (pa_cons (pv 3) (pa_cons (pe_lc (own := [("way", 5), ("times", 6)]) (g := gTup Z.K 2 (gCons (gName 5) (gCons (gName 6) gNil))) rfl sc_presses_on.nd (pi_tupZ (K := Z.K) rfl (pv 4)) (blkOk_eq (N' := ["d", "presses", "by", "weight", "parts", "way", "times"]) (sc' := { kind := .function, names := [(".0", .local), ("weight", .local), ("parts", .local), ("by", .cell)], isGenerator := false, isCoroutine := false }) rfl rfl (by decide +kernel)) (fun _ _ _ _ _ => pg_tup rfl (pgs_cons (pg_name (i := 5) sc_presses_on.nd rfl (Or.inl rfl)) (pgs_cons (pg_name (i := 6) sc_presses_on.nd rfl (Or.inl rfl)) pgs_nil))) (fun _ _ _ _ _ => pts_nil) (fun _ _ _ _ _ => (pe_tup (pa_cons (pe_op op_mod (pe_op op_add (pv 5) (pv 2)) pe_int) (pa_cons (pv 6) pa_nil))))) pa_nil))))))))), ?_⟩
    try simp only [cxOf]
    obtain ⟨d, rfl, hd, q⟩ := h
    have hP : pressD d = (basP d).map (turnP ((d : Int) - (d : Int) % 2)) := rfl
    have few := basP_few (d := d)
    walk_at "W"
    by_cases hm : d % 2 = 1
    case' pos =>
      have kd := kd_psK (n := 3) (l := oddP) T.d_ODD_PRESSES
      rw [show oddP = basP d from (if_pos hm).symm] at kd
      rw [decide_eq_true (show V.int ((d : Int) % 2) = V.int 1 by rw [show (d : Int) % 2 = 1 by omega])]
    case' neg =>
      have kd := kd_psK (n := 3) (l := evenP) T.d_EVEN_PRESSES
      rw [show evenP = basP d from (if_neg hm).symm] at kd
      rw [decide_eq_false (show ¬ V.int ((d : Int) % 2) = V.int 1 by rw [show (d : Int) % 2 = 0 by omega]; simp)]
    all_goals
      obtain ⟨a, xs, e, hs, hl, hx⟩ := kd
      rw [e]
      generalize hb : (d : Int) - (d : Int) % 2 = by' at *
      generalize hB : basP d = B at *
      walk_at "W"
      rw [hb]
      refine k_lcS (xs := xs) (fun n D H' => H D = none ∧ Same H H' ∧ ∃ zs, H' D = some (.lst zs) ∧ zs.length = n ∧ n ≤ 4 ∧ ∀ (i : Nat) z p, zs[i]? = some z → B[i]? = some p → ∃ q y, z = .ref q ∧ y ≠ .ref D ∧ H' q = some (.tup [.int (turnP by' p).1, y]) ∧ PartsAt Z.K H' y (turnP by' p).2) (hs H) (fun D hD => ⟨hD, Same.new hD, [], upd_same, rfl, by omega, fun i z p h => by simp at h⟩) (fun n D H' h => hs H') ?_ ?_
      · rintro n x D H2 hxn ⟨hD, s2, zs, ez, lz, n4, az⟩
        have nl : n < B.length := by rw [← hl]; exact (List.getElem?_eq_some_iff.mp hxn).1
        have ep := List.getElem?_eq_getElem nl
        obtain ⟨q0, y, e0, hq, a2, ys, rfl, hy, ly, hyx⟩ := hx n _ ep
        rw [hxn] at e0
        cases e0
        have fp := few.2 _ (List.getElem_mem nl)
        generalize B[n] = p at *
        refine k_tup2S (hq H2) rfl rfl ?_
        refine ⟨rfl, w_yes (w_T rfl ?_)⟩
        walk_at "W"
        refine k_lcS (xs := ys) (fun m D' H3 => H2 D' = none ∧ Same H2 H3 ∧ ∃ ws, H3 D' = some (.lst ws) ∧ ws.length = m ∧ m ≤ 2 ∧ ∀ (i : Nat) w r, ws[i]? = some w → p.2[i]? = some r → ∃ k, w = .ref k ∧ H3 k = some (.tup [.int (((r : Int × Int).1 + by') % 8), .int r.2])) (hy H2) (fun D' hD' => ⟨hD', Same.new hD', [], upd_same, rfl, by omega, fun i z p h => by simp at h⟩) (fun m D' H' h => hy H') ?_ ?_
        · rintro m w D' H3 hwm ⟨hD', s3, ws, ew, lw, m2, aw⟩
          have ml : m < p.2.length := by rw [← ly]; exact (List.getElem?_eq_some_iff.mp hwm).1
          have er := List.getElem?_eq_getElem ml
          obtain ⟨q1, e1, hq1⟩ := hyx m _ er
          rw [hwm] at e1
          cases e1
          generalize p.2[m] = r at *
          refine k_tup2S (hq1 H3) rfl rfl ?_
          refine ⟨rfl, w_yes (w_T rfl ?_)⟩
          walk_at "W"
          refine k_tup rfl fun u H4 hu s4 eu => ?_
          have ew4 := s4 _ _ ew
          refine ⟨ws, ew4, few_lt (by omega), hD', fun b o eb => ?_, _, upd_same, by simp [lw], by omega, fun i z p' h1 h2 => ?_⟩
          · rw [upd_ne (ne_of_none eb hD')]
            exact s4 _ _ (s3 _ _ eb)
          · have kp : Kps H4 (upd H4 D' (.lst (ws ++ [.ref u]))) := Kps.sx ew4 (SameX.upd fun _ _ _ e => e)
            rcases Nat.lt_or_ge i ws.length with hi | hi
            · rw [List.getElem?_append_left hi] at h1
              obtain ⟨k, rfl, ek⟩ := aw i z p' h1 h2
              exact ⟨k, rfl, kp.tup (s4 _ _ ek)⟩
            · have hi2 : i = ws.length := by
                have := (List.getElem?_eq_some_iff.mp h1).1
                simp at this
                omega
              subst hi2
              rw [List.getElem?_append_right (by omega), Nat.sub_self] at h1
              cases h1
              rw [lw, er] at h2
              cases h2
              exact ⟨u, rfl, kp.tup eu⟩
        · rintro D' H3 ⟨hD', s3, ws, ew, lw, m2, aw⟩
          walk_at "W"
          refine k_tup rfl fun u H4 hu s4 eu => ?_
          have ew4 := s4 _ _ ew
          have ez4 := s4 _ _ (s3 _ _ ez)
          have dd : D' ≠ D := fun z => by rw [z, ez] at hD'; cases hD'
          refine ⟨zs, ez4, few_lt (by omega), hD, fun b o eb => ?_, _, upd_same, by simp [lz], by omega, fun i z p' h1 h2 => ?_⟩
          · rw [upd_ne (ne_of_none eb hD)]
            exact s4 _ _ (s3 _ _ (s2 _ _ eb))
          · have kp : Kps H4 (upd H4 D (.lst (zs ++ [.ref u]))) := Kps.sx ez4 (SameX.upd fun _ _ _ e => e)
            rcases Nat.lt_or_ge i zs.length with hi | hi
            · rw [List.getElem?_append_left hi] at h1
              obtain ⟨k, y', rfl, yd, ek, pa⟩ := az i z p' h1 h2
              exact ⟨k, y', rfl, yd, kp.tup (s4 _ _ (s3 _ _ ek)), ((pa.same s3).same s4).upd yd ez4⟩
            · have hi2 : i = zs.length := by
                have := (List.getElem?_eq_some_iff.mp h1).1
                simp at this
                omega
              subst hi2
              rw [List.getElem?_append_right (by omega), Nat.sub_self] at h1
              cases h1
              rw [lz, ep] at h2
              cases h2
              refine ⟨u, .ref D', rfl, fun z => dd (by cases z; rfl), kp.tup eu, PartsAt.upd (l := (turnP by' p).2) ⟨D', ws, rfl, .inl ew4, by rw [lw, ly]; simp [turnP], fun i w r h1 h2 => ?_⟩ (fun z => dd (by cases z; rfl)) ez4⟩
              rw [show (turnP by' p).2 = p.2.map fun q => ((q.1 + by') % 8, q.2) from rfl, List.getElem?_map] at h2
              obtain ⟨r', er', rfl⟩ := Option.map_eq_some_iff.mp h2
              obtain ⟨k, rfl, ek⟩ := aw i w r' h1 er'
              exact ⟨k, rfl, SqT.of (s4 _ _ ek)⟩
      · rintro D H2 ⟨hD, s2, zs, ez, lz, n4, az⟩
        refine q D zs H2 hD s2 ez (by rw [hP, List.length_map, lz, hl]) fun i z p h1 h2 => ?_
        rw [hP, List.getElem?_map] at h2
        obtain ⟨p', ep', rfl⟩ := Option.map_eq_some_iff.mp h2
        obtain ⟨k, y', rfl, yd, ek, pa⟩ := az i z p' h1 ep'
        exact ⟨k, y', rfl, ek, pa⟩
def barT (ps : List (Option (Int × Int))) (l : List (Int × Int)) : Bool := match psum ps l (0, 0) with
  | none => false
  | some r => decide (sgn r.1 r.2 ≤ 0)
def barB (ps : List (Option (Int × Int))) : Bool := barC.any (barT ps)
def lstep (ps : List (Option (Int × Int))) (acc : Option (Int × Int)) (p : Int × List (Int × Int)) : Option (Int × Int) := match psum ps p.2 (0, 0) with
  | none => acc
  | some r => match acc with
    | none => some (r.1 * (2 / p.1), r.2 * (2 / p.1))
    | some a => if sgn (r.1 * (2 / p.1) - a.1) (r.2 * (2 / p.1) - a.2) < 0 then some (r.1 * (2 / p.1), r.2 * (2 / p.1)) else some a
def lprO (ps : List (Option (Int × Int))) (d : Nat) : Option (Int × Int) := (pressD d).foldl (lstep ps) none
def WO (n : Nat) (o : Option (Int × Int)) : Prop := ∀ r, o = some r → Bw n r.1 ∧ Bw n r.2
theorem barC_ok : ∀ l ∈ barC, PtsOk l := by
  unfold PtsOk
  decide
theorem pressD_ok {d : Nat} (h : d < 8) : (pressD d).length = 4 ∧ ∀ p ∈ pressD d, (p.1 = 1 ∨ p.1 = 2) ∧ PtsOk p.2 := by
  refine d8_cases h (P := fun d => (pressD d).length = 4 ∧ ∀ p ∈ pressD d, (p.1 = 1 ∨ p.1 = 2) ∧ PtsOk p.2) ?_ ?_ ?_ ?_ ?_ ?_ ?_ ?_ <;> (unfold PtsOk; decide)
theorem psum_ok {ps : List (Option (Int × Int))} {l : List (Int × Int)} {r : Int × Int} (hp : PrsOk ps) (hl : PtsOk l) (e : psum ps l (0, 0) = some r) : Bw 990 r.1 ∧ Bw 990 r.2 := by
  obtain ⟨a, b⟩ := psum_bw hp (n := 983) hl.2 (by decide) (Bw.zero.mono (by decide)) (Bw.zero.mono (by decide)) e
  have := hl.1
  exact ⟨a.mono (by omega), b.mono (by omega)⟩
theorem fac_bw {w r : Int} (hw : w = 1 ∨ w = 2) (h : Bw 990 r) : Bw 992 (r * (2 / w)) := by
  have : Bw 2 (2 / w) := by rcases hw with rfl | rfl <;> (unfold Bw; decide)
  exact (h.mul this).mono (by decide)
theorem lstep_bw {ps : List (Option (Int × Int))} {acc : Option (Int × Int)} {p : Int × List (Int × Int)} (hp : PrsOk ps) (hw : p.1 = 1 ∨ p.1 = 2) (hl : PtsOk p.2) (ha : WO 992 acc) : WO 992 (lstep ps acc p) := by
  unfold lstep
  split
  · exact ha
  · rename_i r e
    obtain ⟨b1, b2⟩ := psum_ok hp hl e
    have c : WO 992 (some (r.1 * (2 / p.1), r.2 * (2 / p.1))) := fun q hq => by
      cases hq
      exact ⟨fac_bw hw b1, fac_bw hw b2⟩
    split
    · exact c
    · split
      · exact c
      · exact ha
abbrev s_barring_parts : Stmt := top 62
theorem sc_barring_parts : FnScope ["pairs", "parts", "total"] ["pairs"] (defScope s_barring_parts) := ⟨rfl, rfl, rfl, by decide +kernel, rfl, by decide +kernel, by decide +kernel⟩

def sp_barring_parts (Z : Zs) : Sp := fun vs H Q E =>
  ∃ lp ys ps, vs = [.ref lp] ∧ H lp = some (.lst ys) ∧ PrsAt H ys ps ∧ PrsOk ps ∧ (barB ps = true → ∀ u H', Same H H' → Q (.ref u) H') ∧ (barB ps = false → ∀ H', Same H H' → Q .non H')
theorem ok_barring_parts (T : Txt Z mg) (h_surd_sign : Has P w Z.K mg base "surd_sign" 1 ["top", "root"] (sp_surd_sign Z)) (h_pair_sum : Has P w Z.K mg base "pair_sum" 1 ["parts", "pairs"] (sp_pair_sum Z)) (D : AtF Z.K mg "barring_parts" "barring_parts" s_barring_parts ["pairs"]) : Has P w Z.K mg base "barring_parts" 2 ["pairs"] (sp_barring_parts Z) := by
  refine D.ok sc_barring_parts (fun vs H Q E h => ?_) (fun cdv A outer s H vs Q E hr h => ?_)
  · obtain ⟨lp, ys, ps, rfl, _⟩ := h
    rfl
  · refine ⟨_, (pss_cons (ps_for (passes_of rfl) rfl (pi_seq (pe_glob (v := .ref Z.c_BARRING) rfl T.g_BARRING rfl)) (pg_name (i := 1) sc_barring_parts.nd rfl (Or.inl rfl)) (pss_cons (ps_set (i := 2) sc_barring_parts.nd rfl (Or.inl rfl) (pe_h (E := ED E) h_pair_sum hr (paW (takes_of rfl rfl rfl rfl)) (pa_cons (pv 1) (pa_cons (pv 0) pa_nil))))
      (pss_one (ps_if (PW.pt (pw_and (pt_cmpR op_notN (pv 2) pe_non (nomark _)) (pw_and1 (pt_cmpR op_le (pe_h (E := ED E) h_surd_sign hr (paW (takes_of rfl rfl rfl rfl)) (pa_cons (pe_ix ix_seq (pv 2) pe_int (fun _ _ => rfl)) (pa_cons (pe_ix ix_seq (pv 2) pe_int (fun _ _ => rfl)) pa_nil))) pe_int (nomark _))))) (pss_one (ps_ret (pv 1))) pss_nil))))
      (pss_one (ps_ret pe_non))), ?_⟩
    try simp only [cxOf]
    obtain ⟨lp, ys, ps, rfl, el, py, pk, q1, q2⟩ := h
    obtain ⟨c, xs, hc, hs, hl, hx⟩ := KD.tup (ds := barC.map ptD) T.d_BARRING
    cases hc
    rw [List.length_map] at hl
    walk_at "W"
    refine k_forLS (xs := xs) (fun i σ' H' => (∃ z1 z2, σ' = [some (.ref lp), z1, z2]) ∧ Same H H' ∧ ∀ l ∈ barC.take i, barT ps l = false) (.inr (hs H)) (fun R r => by walk_at "W"; exact r) ⟨⟨_, _, rfl⟩, Same.refl _, fun l h => by simp at h⟩ (fun i σ' H' h => h.2.1) ?_ ?_
    · rintro i x σ' H2 hxi ⟨⟨z1, z2, rfl⟩, s2, al⟩
      have il : i < barC.length := by rw [← hl]; exact (List.getElem?_eq_some_iff.mp hxi).1
      have ep := List.getElem?_eq_getElem il
      obtain ⟨x', ex, kx⟩ := hx i _ (by rw [List.getElem?_map, ep]; rfl)
      rw [hxi] at ex
      cases ex
      have ok := barC_ok _ (List.getElem_mem il)
      have mm := List.getElem_mem il
      generalize barC[i] = l at *
      have pa := kd_parts kx H2
      obtain ⟨xa, xxs, rfl, -, -, -⟩ := kd_paK (n := 4) kx
      have nx : ∀ {b : Bool}, barT ps l = b → barT ps l = false → ∀ l' ∈ barC.take (i + 1), barT ps l' = false := fun {b} _ e l' hm => by
        rw [List.take_add_one, ep] at hm
        rcases List.mem_append.mp hm with h | h
        · exact al l' h
        · simp at h
          rw [h]
          exact e
      walk_at "W"
      have bt : barT ps l = match psum ps l (0, 0) with | none => false | some r => decide (sgn r.1 r.2 ≤ 0) := rfl
      refine ⟨_, lp, ys, ps, l, rfl, pa, s2 _ _ el, py.kps (Kps.same s2), pk, ok, fun e H3 s3 => ?_, fun r e u H3 s3 eu => ?_⟩
      · rw [e] at bt
        walk_at "W"
        try with_reducible refine L2.My.w_isN ?_
        walk_at "W"
        exact ⟨⟨_, _, rfl⟩, s2.trans s3, nx bt bt⟩
      · replace bt : barT ps l = decide (sgn r.1 r.2 ≤ 0) := by rw [e] at bt; exact bt
        obtain ⟨b1, b2⟩ := psum_ok pk ok e
        walk_at "W"
        try with_reducible refine L2.My.w_isN ?_
        walk_at "W"
        refine ⟨_, _, rfl, b1.mono (by decide), b2.mono (by decide), ?_⟩
        walk_at "W"
        by_cases hh : sgn r.1 r.2 ≤ 0
        · rw [decide_eq_true hh]
          rw [decide_eq_true hh] at bt
          walk_at "W"
          exact q1 (List.any_eq_true.mpr ⟨l, mm, bt⟩) _ H3 (s2.trans s3)
        · rw [decide_eq_false hh]
          rw [decide_eq_false hh] at bt
          walk_at "W"
          exact ⟨⟨_, _, rfl⟩, s2.trans s3, nx bt bt⟩
    · rintro σ' H2 ⟨⟨z1, z2, rfl⟩, s2, al⟩
      rw [hl, List.take_length] at al
      walk_at "W"
      refine q2 ?_ H2 s2
      exact List.any_eq_false.mpr fun l hm => by rw [al l hm]; simp
abbrev s_least_pair : Stmt := top 63
theorem sc_least_pair : FnScope ["d", "pairs", "least", "weight", "parts", "total", "top", "root"] ["d", "pairs"] (defScope s_least_pair) := ⟨rfl, rfl, rfl, by decide +kernel, rfl, by decide +kernel, by decide +kernel⟩

def sp_least_pair (Z : Zs) : Sp := fun vs H Q E =>
  ∃ (d : Nat) (lp : Addr) (ys : List V) (ps : List (Option (Int × Int))), vs = [.int d, .ref lp] ∧ d < 8 ∧ H lp = some (.lst ys) ∧ PrsAt H ys ps ∧ PrsOk ps ∧ ∀ v H', Same H H' → PrAt H' v (lprO ps d) → Q v H'
theorem ok_least_pair (T : Txt Z mg) (h_presses_on : Has P w Z.K mg base "presses_on" 1 ["d"] (sp_presses_on Z)) (h_surd_sign : Has P w Z.K mg base "surd_sign" 1 ["top", "root"] (sp_surd_sign Z)) (h_pair_sum : Has P w Z.K mg base "pair_sum" 1 ["parts", "pairs"] (sp_pair_sum Z)) (D : AtF Z.K mg "least_pair" "least_pair" s_least_pair ["d", "pairs"]) : Has P w Z.K mg base "least_pair" 2 ["d", "pairs"] (sp_least_pair Z) := by
  refine D.ok sc_least_pair (fun vs H Q E h => ?_) (fun cdv A outer s H vs Q E hr h => ?_)
  · obtain ⟨d, lp, ys, ps, rfl, _⟩ := h
    rfl
  · refine ⟨_, (pss_cons (ps_set (i := 2) sc_least_pair.nd rfl (Or.inl rfl) pe_non)
      (pss_cons (ps_for (passes_of rfl) rfl (pi_list (pe_h (E := ED E) h_presses_on hr (paW (takes_of rfl rfl rfl rfl)) (pa_cons (pv 0) pa_nil))) (pg_tup rfl (pgs_cons (pg_name (i := 3) sc_least_pair.nd rfl (Or.inl rfl)) (pgs_cons (pg_name (i := 4) sc_least_pair.nd rfl (Or.inl rfl)) pgs_nil))) (pss_cons (ps_set (i := 5) sc_least_pair.nd rfl (Or.inl rfl) (pe_h (E := ED E) h_pair_sum hr (paW (takes_of rfl rfl rfl rfl)) (pa_cons (pv 4) (pa_cons (pv 1) pa_nil))))
      (pss_cons (ps_if (pt_cmpR op_isN (pv 5) pe_non (nomark _)) (pss_one ps_continue) pss_nil)
      (pss_cons (ps_set (i := 6) sc_least_pair.nd rfl (Or.inl rfl) (pe_op op_mulS (pe_ix ix_seq (pv 5) pe_int (fun _ _ => rfl)) (pe_op op_fdivW pe_int (pv 3))))
      (pss_cons (ps_set (i := 7) sc_least_pair.nd rfl (Or.inl rfl) (pe_op op_mulS (pe_ix ix_seq (pv 5) pe_int (fun _ _ => rfl)) (pe_op op_fdivW pe_int (pv 3))))
      (pss_one (ps_if (PW.pt (pw_or (pt_cmpR op_isN (pv 2) pe_non (nomark _)) (pw_or1 (pt_cmpR op_lt (pe_h (E := ED E) h_surd_sign hr (paW (takes_of rfl rfl rfl rfl)) (pa_cons (pe_op op_sub (pv 6) (pe_ix ix_seq (pv 2) pe_int (fun _ _ => rfl))) (pa_cons (pe_op op_sub (pv 7) (pe_ix ix_seq (pv 2) pe_int (fun _ _ => rfl))) pa_nil))) pe_int (nomark _))))) (pss_one (ps_set (i := 2) sc_least_pair.nd rfl (Or.inl rfl) (pe_tup (pa_cons (pv 6) (pa_cons (pv 7) pa_nil))))) pss_nil)))))))
      (pss_one (ps_ret (pv 2))))), ?_⟩
    try simp only [cxOf]
    obtain ⟨d, lp, ys, ps, rfl, hd, el, py, pk, q⟩ := h
    obtain ⟨l4, pok⟩ := pressD_ok hd
    walk_at "W"
    refine ⟨d, rfl, hd, fun pl xs H1 hpl s1 epl lx hx => ?_⟩
    rw [l4] at lx
    walk_at "W"
    have nl : lp ≠ pl := fun z => by rw [z, hpl] at el; cases el
    refine k_forL (xs := xs) (fun i σ' H' => Same H1 H' ∧ ∃ v z1 z2 z3 z4 z5, σ' = [some (.int (d : Nat)), some (.ref lp), some v, z1, z2, z3, z4, z5] ∧ PrAt H' v (((pressD d).take i).foldl (lstep ps) none) ∧ WO 992 (((pressD d).take i).foldl (lstep ps) none)) (SqL.of epl) ⟨Same.refl _, _, _, _, _, _, _, rfl, rfl, fun r e => by simp at e⟩ (fun i σ' H' h => SqL.of (h.1 _ _ epl)) ?_ ?_
    · rintro i x σ' H2 hxi ⟨s2, v, z1, z2, z3, z4, z5, rfl, hv, wv⟩
      have il : i < (pressD d).length := by rw [l4, ← lx]; exact (List.getElem?_eq_some_iff.mp hxi).1
      have ep := List.getElem?_eq_getElem il
      obtain ⟨q0, y, rfl, eq0, pa⟩ := hx i x _ hxi ep
      obtain ⟨hw, ok⟩ := pok _ (List.getElem_mem il)
      have st : ((pressD d).take (i + 1)).foldl (lstep ps) none = lstep ps (((pressD d).take i).foldl (lstep ps) none) (pressD d)[i] := by
        rw [List.take_add_one, ep, List.foldl_append]
        rfl
      rw [st]
      have wn := lstep_bw pk hw ok wv
      generalize (pressD d)[i] = p at *
      generalize ((pressD d).take i).foldl (lstep ps) none = acc at *
      have e2 := s2 _ _ eq0
      refine k_tup2S (SqT.of e2) rfl rfl ?_
      walk_at "W"
      refine ⟨_, lp, ys, ps, p.2, rfl, pa.same s2, s2 _ _ (s1 _ _ el), (py.kps (Kps.same s1)).kps (Kps.same s2), pk, ok, fun e H3 s3 => ?_, fun r e u H3 s3 eu => ?_⟩
      · rw [show lstep ps acc p = acc by unfold lstep; rw [e]]
        walk_at "W"
        try with_reducible refine L2.My.w_isN ?_
        walk_at "W"
        exact ⟨s2.trans s3, _, _, _, _, _, _, rfl, hv.kps (Kps.same s3), wv⟩
      · obtain ⟨b1, b2⟩ := psum_ok pk ok e
        have c1 := fac_bw hw b1
        have c2 := fac_bw hw b2
        have pw : 0 < p.1 := by rcases hw with h | h <;> omega
        have fb : Bw 2 (2 / p.1) := by rcases hw with h | h <;> (rw [h]; unfold Bw; decide)
        have pb : Bw 2 p.1 := by rcases hw with h | h <;> (rw [h]; unfold Bw; decide)
        have hv3 := hv.kps (Kps.same s3)
        walk_at "W"
        try with_reducible refine L2.My.w_isN ?_
        walk_at "W"
        walk_at "W"
        refine w_I (wide_div pw (pb.bd (by decide)) (by decide) (by decide)) ?_
        refine w_I (bwm b1 fb (by decide)) ?_
        walk_at "W"
        walk_at "W"
        refine w_I (wide_div pw (pb.bd (by decide)) (by decide) (by decide)) ?_
        refine w_I (bwm b2 fb (by decide)) ?_
        walk_at "W"
        try with_reducible refine L2.My.w_isN ?_
        cases acc with
        | none =>
          obtain rfl : v = .non := hv
          have ls : lstep ps none p = some (r.1 * (2 / p.1), r.2 * (2 / p.1)) := by unfold lstep; rw [e]
          walk_at "W"
          refine k_tup rfl fun u H4 hu s4 eu4 => ?_
          walk_at "W"
          exact ⟨(s2.trans s3).trans s4, _, _, _, _, _, _, rfl, by rw [ls]; exact ⟨u, rfl, eu4⟩, wn⟩
        | some a =>
          obtain ⟨qa, rfl, ea⟩ := hv3
          obtain ⟨w1, w2⟩ := wv a rfl
          walk_at "W"
          refine ⟨_, _, rfl, (c1.sub w1).mono (by decide), (c2.sub w2).mono (by decide), ?_⟩
          walk_at "W"
          by_cases hh : sgn (r.1 * (2 / p.1) - a.1) (r.2 * (2 / p.1) - a.2) < 0
          · have ls : lstep ps (some a) p = some (r.1 * (2 / p.1), r.2 * (2 / p.1)) := by unfold lstep; rw [e]; exact if_pos hh
            rw [decide_eq_true hh]
            walk_at "W"
            refine k_tup rfl fun u H4 hu s4 eu4 => ?_
            walk_at "W"
            exact ⟨(s2.trans s3).trans s4, _, _, _, _, _, _, rfl, by rw [ls]; exact ⟨u, rfl, eu4⟩, wn⟩
          · have ls : lstep ps (some a) p = some a := by unfold lstep; rw [e]; exact if_neg hh
            rw [decide_eq_false hh]
            walk_at "W"
            exact ⟨s2.trans s3, _, _, _, _, _, _, rfl, by rw [ls]; exact ⟨qa, rfl, ea⟩, wn⟩
    · rintro σ' H2 ⟨s2, v, z1, z2, z3, z4, z5, rfl, hv, wv⟩
      rw [lx, ← l4, List.take_length] at hv
      walk_at "W"
      exact q v H2 (s1.trans s2) hv
/-- the tightened bounds: none if barred, else eight numbers or nones -/
def tigO (ns : List (Option Bn)) : List (Option (Int × Int)) := (List.range 8).map (lprO (ns.map (prO (comB ns 1))))
def TgAt (c : Addr) (H : Hp) (z : V) (B : Int) : Option (Int × Int) → Prop
  | none => z = .non
  | some p => LowAt c H z p.1 p.2 (2 * B)
def TgsAt (c : Addr) (H : Hp) (zs : List V) (B : Int) (os : List (Option (Int × Int))) : Prop := zs.length = os.length ∧ ∀ (i : Nat) z o, zs[i]? = some z → os[i]? = some o → TgAt c H z B o
theorem TgAt.kps {c : Addr} {H H' : Hp} {z : V} {B : Int} {o : Option (Int × Int)} (h : TgAt c H z B o) (s : Kps H H') : TgAt c H' z B o := by
  cases o with
  | none => exact h
  | some x =>
    obtain ⟨a, dx, rfl, e⟩ := h
    exact ⟨a, dx, rfl, s _ _ (by intro xs z; cases z) e⟩
theorem TgsAt.kps {c : Addr} {H H' : Hp} {zs : List V} {B : Int} {ns : List (Option (Int × Int))} (h : TgsAt c H zs B ns) (s : Kps H H') : TgsAt c H' zs B ns := ⟨h.1, fun i z o h1 h2 => (h.2 i z o h1 h2).kps s⟩
theorem TgsAt.add {c : Addr} {H : Hp} {zs : List V} {B : Int} {ns : List (Option (Int × Int))} {z : V} {o : Option (Int × Int)} (h : TgsAt c H zs B ns) (k : TgAt c H z B o) : TgsAt c H (zs ++ [z]) B (ns ++ [o]) := by
  refine ⟨by simp [h.1], fun i y p h1 h2 => ?_⟩
  rcases Nat.lt_trichotomy i zs.length with l | l | l
  · rw [List.getElem?_append_left l] at h1
    rw [List.getElem?_append_left (by rw [← h.1]; exact l)] at h2
    exact h.2 i y p h1 h2
  · rw [List.getElem?_append_right (by omega), l, Nat.sub_self] at h1
    rw [List.getElem?_append_right (by rw [← h.1]; omega), ← h.1, l, Nat.sub_self] at h2
    cases h1
    cases h2
    exact k
  · rw [List.getElem?_eq_none (by simp; omega)] at h1
    cases h1
/-- small bounds -/
def Bn.ok60 (x : Bn) : Prop := x.d < 8 ∧ 0 < x.b ∧ Bw 300 x.t ∧ Bw 300 x.r ∧ Bw 60 x.b
theorem Bn.ok60.ok {x : Bn} (h : Bn.ok60 x) : Bn.ok x := ⟨h.1, h.2.1, h.2.2.1.mono (by decide), h.2.2.2.1.mono (by decide), h.2.2.2.2.mono (by decide)⟩
/-- the pairs of bounds are not too great -/
theorem prs_of {n k : Nat} {ns : List (Option Bn)} (l8 : ns.length = 8) (ok : ∀ o ∈ ns, Bn.okO o) (hB : Bw k (comB ns 1)) (hn : ∀ x, some x ∈ ns → Bw n x.t ∧ Bw n x.r) (hk : n + k ≤ 980) : PrsOk (ns.map (prO (comB ns 1))) := by
  refine ⟨by rw [List.length_map, l8], fun o ho q e => ?_⟩
  obtain ⟨m, hm, rfl⟩ := List.mem_map.mp ho
  cases m with
  | none => cases e
  | some y =>
    cases e
    have oy := ok _ hm y rfl
    obtain ⟨w1, w2⟩ := hn y hm
    obtain ⟨-, -, B4⟩ := comB_ok ok (B := 1) (by decide)
    have wby : Bw k (comB ns 1 / y.b) := bw_div (s := y.b) hB (by
      obtain ⟨k, hk⟩ := B4 y hm
      rw [hk, Int.mul_ediv_cancel_left _ (by have := oy.2.1; omega), Int.mul_comm]) (by have := oy.2.1; omega)
    exact ⟨(w1.mul wby).mono hk, (w2.mul wby).mono hk⟩
theorem lprO_bw {ps : List (Option (Int × Int))} {d : Nat} (hp : PrsOk ps) (hd : d < 8) : WO 992 (lprO ps d) := by
  have go : ∀ (l : List (Int × List (Int × Int))) (acc : Option (Int × Int)), (∀ p ∈ l, (p.1 = 1 ∨ p.1 = 2) ∧ PtsOk p.2) → WO 992 acc → WO 992 (l.foldl (lstep ps) acc) := by
    intro l
    induction l with
    | nil => exact fun acc _ h => h
    | cons p l ih => exact fun acc ho h => ih _ (fun p hm => ho p (List.mem_cons_of_mem _ hm)) (lstep_bw hp (ho p (List.mem_cons_self ..)).1 (ho p (List.mem_cons_self ..)).2 h)
  exact go _ _ (pressD_ok hd).2 (fun r e => by cases e)
abbrev s_tightened : Stmt := top 64
theorem sc_tightened : FnScope ["numbers", "bottom", "pairs", "found", "d", "least"] ["numbers"] (defScope s_tightened) := ⟨rfl, rfl, rfl, by decide +kernel, rfl, by decide +kernel, by decide +kernel⟩

def sp_tightened (Z : Zs) : Sp := fun vs H Q E =>
  ∃ a zs ns, vs = [.ref a] ∧ H a = some (.lst zs) ∧ NmsAt Z.c_Root H zs ns ∧ zs.length = 8 ∧ (∀ o ∈ ns, Bn.okO o) ∧ Bw 530 (comB ns 1) ∧ PrsOk (ns.map (prO (comB ns 1))) ∧ (barB (ns.map (prO (comB ns 1))) = true → ∀ u H', Same H H' → H' u = some (.tup []) → Q (.ref u) H') ∧ (barB (ns.map (prO (comB ns 1))) = false → ∀ u ws H', Same H H' → H' u = some (.tup ws) → TgsAt Z.c_Root H' ws (comB ns 1) (tigO ns) → Q (.ref u) H')
theorem ok_tightened (T : Txt Z mg) (h_Root : HasC P w Z.K mg base "Root" Z.c_Root 3 ["self", "top", "root", "bottom"] (sp_Root_init Z)) (h_least_pair : Has P w Z.K mg base "least_pair" 2 ["d", "pairs"] (sp_least_pair Z)) (h_barring_parts : Has P w Z.K mg base "barring_parts" 2 ["pairs"] (sp_barring_parts Z)) (h_over_common : Has P w Z.K mg base "over_common" 1 ["numbers"] (sp_over_common Z)) (D : AtF Z.K mg "tightened" "tightened" s_tightened ["numbers"]) : Has P w Z.K mg base "tightened" 5 ["numbers"] (sp_tightened Z) := by
  refine D.ok sc_tightened (fun vs H Q E h => ?_) (fun cdv A outer s H vs Q E hr h => ?_)
  · obtain ⟨a, zs, ns, rfl, _⟩ := h
    rfl
  · refine ⟨_, (pss_cons (ps_asg (pe_h (E := ED E) h_over_common hr (paW (takes_of rfl rfl rfl rfl)) (pa_cons (pv 0) pa_nil)) (pg_tup rfl (pgs_cons (pg_name (i := 1) sc_tightened.nd rfl (Or.inl rfl)) (pgs_cons (pg_name (i := 2) sc_tightened.nd rfl (Or.inl rfl)) pgs_nil))))
      (pss_cons (ps_if (pt_cmpR op_notN (pe_h (E := ED E) h_barring_parts hr (paW (takes_of rfl rfl rfl rfl)) (pa_cons (pv 2) pa_nil)) pe_non (nomark _)) (pss_one (ps_ret (pe_tup pa_nil))) pss_nil)
      (pss_cons (ps_set (i := 3) sc_tightened.nd rfl (Or.inl rfl) (pe_lst pa_nil))
      (pss_cons (ps_for (passes_of rfl) rfl (pi_range1 rfl T.n_range (pa_cons pe_int pa_nil)) (pg_name (i := 4) sc_tightened.nd rfl (Or.inl rfl)) (pss_cons (ps_set (i := 5) sc_tightened.nd rfl (Or.inl rfl) (pe_h (E := ED E) h_least_pair hr (paW (takes_of rfl rfl rfl rfl)) (pa_cons (pv 4) (pa_cons (pv 2) pa_nil))))
      (pss_one (ps_expr (pe_bm PySem.F.plainAttrs_list PySem.F.slot_list_append PySem.F.type_list_append mt_append (pv 3) (pa_cons (pe_ifExp (pt_cmpR op_isN (pv 5) pe_non (nomark _)) pe_non (pe_hc (E := ED E) h_Root hr (paW (takes_of rfl rfl rfl rfl)) (pa_cons (pe_ix ix_seq (pv 5) pe_int (fun _ _ => rfl)) (pa_cons (pe_ix ix_seq (pv 5) pe_int (fun _ _ => rfl)) (pa_cons (pe_op op_mulS pe_int (pv 1)) pa_nil))))) pa_nil))))))
      (pss_one (ps_ret (pe_callTy call_tuple_of rfl T.n_tuple (by decide +kernel) (pa_cons (pv 3) pa_nil)))))))), ?_⟩
    try simp only [cxOf]
    obtain ⟨a, zs, ns, rfl, ea, hn, l8, ok, B2, pk, q1, q2⟩ := h
    have n8 : ns.length = 8 := by rw [← hn.1]; exact l8
    obtain ⟨B1, -, -⟩ := comB_ok ok (B := 1) (by decide)
    have tg : tigO ns = (List.range 8).map (lprO (ns.map (prO (comB ns 1)))) := rfl
    walk_at "W"
    refine ⟨a, zs, ns, rfl, ea, hn, l8, ok, B2, fun u l ys H1 s1 eu el py => ?_⟩
    generalize hB : comB ns 1 = B at *
    have wO : ∀ d, d < 8 → WO 992 (lprO (ns.map (prO B)) d) := fun d hd => lprO_bw pk hd
    generalize ns.map (prO B) = ps at *
    have b2 : CMulS 2 B := bwm (show Bw 2 2 by unfold Bw; decide) B2 (by decide)
    refine k_tup2S (SqT.of eu) rfl rfl ?_
    walk_at "W"
    refine ⟨l, ys, ps, rfl, el, py, pk, fun hb v H2 s2 => ?_, fun hb H2 s2 => ?_⟩
    · walk_at "W"
      try with_reducible refine L2.My.w_isN ?_
      walk_at "W"
      exact k_tup rfl fun v' H3 hv s3 e3 => q1 hb v' H3 (s1.trans (s2.trans s3)) e3
    walk_at "W"
    try with_reducible refine L2.My.w_isN ?_
    walk_at "W"
    refine k_lst rfl fun f H3 hf s3 ef => ?_
    have S3 := s1.trans (s2.trans s3)
    have el3 := s3 _ _ (s2 _ _ el)
    have py3 := (py.kps (Kps.same s2)).kps (Kps.same s3)
    have nlf : l ≠ f := fun z => by rw [← z, (s2 _ _ el)] at hf; cases hf
    walk_at "W"
    refine k_forR (fun i σ' H' => (∃ z1 z2, σ' = [some (.ref a), some (.int B), some (.ref l), some (.ref f), z1, z2]) ∧ SameX f H3 H' ∧ Kps H3 H' ∧ ∃ ws, H' f = some (.lst ws) ∧ TgsAt Z.c_Root H' ws B ((tigO ns).take i)) (by decide) (by decide) ⟨⟨_, _, rfl⟩, fun _ _ _ e => e, Kps.refl _, [], ef, rfl, fun i z o h => by simp at h⟩ ?_ ?_
    · rintro i σ' H4 hi ⟨⟨z1, z2, rfl⟩, x4, k4, ws, ew, tw⟩
      replace hi : i < 8 := hi
      have lw : ws.length ≤ 8 := by rw [tw.1, List.length_take, tg, List.length_map, List.length_range]; omega
      have ht : (tigO ns)[i]? = some (lprO ps i) := by rw [tg, List.getElem?_map, List.getElem?_range hi]; rfl
      rw [Int.zero_add]
      walk_at "W"
      refine ⟨i, l, ys, ps, rfl, hi, x4 _ _ nlf el3, py3.kps k4, pk, fun v H5 s5 hv => ?_⟩
      have wv := wO i hi
      have go : ∀ {H6 : Hp} {z : V} {o : Option V}, Same H5 H6 → TgAt Z.c_Root H6 z B (lprO ps i) → rAppend (.ref f) [z] H6 fun _ H' => (∃ z1 z2, [some (V.ref a), some (.int B), some (.ref l), some (.ref f), some (.int (i : Nat)), o] = [some (V.ref a), some (.int B), some (.ref l), some (.ref f), z1, z2]) ∧ SameX f H3 H' ∧ Kps H3 H' ∧ ∃ ws, H' f = some (.lst ws) ∧ TgsAt Z.c_Root H' ws B ((tigO ns).take (i + 1)) := fun {H6 z o} s6 hz => by
        have S := s5.trans s6
        refine w_app (S _ _ ew) (few_lt (by omega)) fun H7 x7 k7 e7 => ⟨⟨_, _, rfl⟩, x4.trans ((Same.x S).trans x7), k4.trans ((Kps.same S).trans (Kps.sx (S _ _ ew) x7)), _, e7, ?_⟩
        rw [List.take_add_one, ht]
        exact ((tw.kps (Kps.same S)).kps (Kps.sx (S _ _ ew) x7)).add (hz.kps (Kps.sx (S _ _ ew) x7))
      generalize lprO ps i = o at *
      walk_at "W"
      refine k_bm (s5 _ _ ew) ?_
      walk_at "W"
      try with_reducible refine L2.My.w_isN ?_
      cases o with
      | none =>
        obtain rfl : v = .non := hv
        walk_at "W"
        exact go (Same.refl _) rfl
      | some r =>
        obtain ⟨qr, rfl, er⟩ := hv
        walk_at "W"
        exact k_mkRootI (by omega) (((show Bw 2 2 by unfold Bw; decide).mul B2).bd (by decide)) fun w H6 s6 hw => go s6 hw
    · rintro σ' H4 ⟨⟨z1, z2, rfl⟩, x4, k4, ws, ew, tw⟩
      rw [List.take_of_length_le (by rw [tg, List.length_map, List.length_range]; decide)] at tw
      walk_at "W"
      refine ⟨f, ws, rfl, .inl ⟨SqL.of ew, fun u' hu' => ?_⟩⟩
      have sn : Same H4 (upd H4 u' (.tup ws)) := Same.new hu'
      have fn : ∀ b o, H b = some o → b ≠ f := fun b o e z => by rw [z] at e; rw [(s1.trans s2) _ _ e] at hf; cases hf
      exact q2 hb u' ws _ (fun b o e => sn _ _ (x4 b o (fn b o e) (S3 _ _ e))) upd_same (tw.kps (Kps.same sn))
local macro_rules | `(tactic| walk_at "s") => `(tactic| first | with_reducible refine L2.My.w_lcEnT ?_)
def barP (bs : List Bn) : Bool := barB ((leastN bs).map (prO (comB (leastN bs) 1)))
/-- bounds that can be tightened without great numbers -/
def BsOk (bs : List Bn) : Prop := (∀ x ∈ bs, Bn.ok x) ∧ Bw 530 (comB (leastN bs) 1) ∧ PrsOk ((leastN bs).map (prO (comB (leastN bs) 1)))
def PieceAt (Z : Zs) (H : Hp) (v : V) (bs : List Bn) : Prop := ∃ a dx u ws, v = .ref a ∧ H a = some (.ins Z.c_Piece dx [("bounds", .ref u)]) ∧ H u = some (.tup ws) ∧ BsOk bs ∧ (barP bs = true ∧ ws = [] ∨ barP bs = false ∧ TgsAt Z.c_Root H ws (comB (leastN bs) 1) (tigO (leastN bs)))
theorem PieceAt.kps {Z : Zs} {H H' : Hp} {v : V} {bs : List Bn} (h : PieceAt Z H v bs) (s : Kps H H') : PieceAt Z H' v bs := by
  obtain ⟨a, dx, u, ws, rfl, e1, e2, ok, h⟩ := h
  exact ⟨a, dx, u, ws, rfl, s _ _ (by intro xs z; cases z) e1, s.tup e2, ok, h.imp id fun h => ⟨h.1, h.2.kps s⟩⟩
theorem leastN_ok {bs : List Bn} (ok : ∀ x ∈ bs, Bn.ok x) : (leastN bs).length = 8 ∧ ∀ o ∈ leastN bs, Bn.okO o := by
  refine ⟨by unfold leastN; rw [List.length_map]; exact leastI_len, fun o ho x e => ?_⟩
  unfold leastN at ho
  obtain ⟨k, hk, rfl⟩ := List.mem_map.mp ho
  cases k with
  | none => cases e
  | some j => exact ok x (List.mem_of_getElem? (show bs[j]? = some x from e))
def lowBn (d : Nat) (t r b : Int) : Bn := ⟨d, lowT t r b, lowR t r b, lowB t r b⟩
def rowsP (bs : List Bn) : List Bn := if barP bs = true then [⟨0, 0, 0, 1⟩, ⟨4, 0, 0, 1⟩] else (List.range 8).filterMap fun d => (lprO ((leastN bs).map (prO (comB (leastN bs) 1))) d).map fun p => lowBn d p.1 p.2 (2 * comB (leastN bs) 1)
def letB (t r b t' r' b' : Int) (x : Bn) : Bool := decide (sgn (minus.t (lowT (twT x.d t b t' b') (twT x.d r b r' b') (b * b')) (lowR (twT x.d t b t' b') (twT x.d r b r' b') (b * b')) (lowB (twT x.d t b t' b') (twT x.d r b r' b') (b * b')) x.t x.r x.b) (minus.r (lowT (twT x.d t b t' b') (twT x.d r b r' b') (b * b')) (lowR (twT x.d t b t' b') (twT x.d r b r' b') (b * b')) (lowB (twT x.d t b t' b') (twT x.d r b r' b') (b * b')) x.t x.r x.b) < 0)
theorem BnAt.kps {c : Addr} {H H' : Hp} {v : V} {x : Bn} (h : BnAt c H v x) (s : Kps H H') : BnAt c H' v x := by
  obtain ⟨p, y, rfl, e, n, m⟩ := h
  refine ⟨p, y, rfl, s.tup e, ?_, m⟩
  rcases n with ⟨a, dx, rfl, e'⟩ | n
  · exact .inl ⟨a, dx, rfl, s _ _ (by intro xs z; cases z) e'⟩
  · exact .inr n
theorem BnsAt.kps {c : Addr} {H H' : Hp} {vs : List V} {xs : List Bn} (h : BnsAt c H vs xs) (s : Kps H H') : BnsAt c H' vs xs := ⟨h.1, fun i v x h1 h2 => (h.2 i v x h1 h2).kps s⟩
theorem BnsAt.add {c : Addr} {H : Hp} {zs : List V} {ns : List Bn} {z : V} {o : Bn} (h : BnsAt c H zs ns) (k : BnAt c H z o) : BnsAt c H (zs ++ [z]) (ns ++ [o]) := by
  refine ⟨by simp [h.1], fun i y p h1 h2 => ?_⟩
  rcases Nat.lt_trichotomy i zs.length with l | l | l
  · rw [List.getElem?_append_left l] at h1
    rw [List.getElem?_append_left (by rw [← h.1]; exact l)] at h2
    exact h.2 i y p h1 h2
  · rw [List.getElem?_append_right (by omega), l, Nat.sub_self] at h1
    rw [List.getElem?_append_right (by rw [← h.1]; omega), ← h.1, l, Nat.sub_self] at h2
    cases h1
    cases h2
    exact k
  · rw [List.getElem?_eq_none (by simp; omega)] at h1
    cases h1
def rowsF (bs : List Bn) (d : Nat) : Option Bn := (lprO ((leastN bs).map (prO (comB (leastN bs) 1))) d).map fun p => lowBn d p.1 p.2 (2 * comB (leastN bs) 1)
def rowsI (bs : List Bn) (n : Nat) : List Bn := (List.range n).filterMap (rowsF bs)
theorem rowsI_succ {bs : List Bn} {n : Nat} : rowsI bs (n + 1) = rowsI bs n ++ (rowsF bs n).toList := by
  unfold rowsI
  rw [List.range_succ, List.filterMap_append]
  congr 1
theorem rowsI_len {bs : List Bn} {n : Nat} : (rowsI bs n).length ≤ n := by
  unfold rowsI
  exact Nat.le_trans (List.length_filterMap_le ..) (by rw [List.length_range]; exact Nat.le_refl _)
/-- all that can be said of the common bottom -/
theorem comB_leastN {bs : List Bn} (ok : BsOk bs) : 0 < comB (leastN bs) 1 ∧ Bw 530 (comB (leastN bs) 1) := by
  obtain ⟨n8, okO⟩ := leastN_ok ok.1
  exact ⟨(comB_ok okO (B := 1) (by decide)).1, ok.2.1⟩
theorem sm_tight {bs : List Bn} (ok : BsOk bs) {d : Nat} (hd : d < 8) {p : Int × Int} (e : lprO ((leastN bs).map (prO (comB (leastN bs) 1))) d = some p) : Sm (lowT p.1 p.2 (2 * comB (leastN bs) 1)) (lowR p.1 p.2 (2 * comB (leastN bs) 1)) (lowB p.1 p.2 (2 * comB (leastN bs) 1)) := by
  obtain ⟨B1, B2⟩ := comB_leastN ok
  obtain ⟨w1, w2⟩ := lprO_bw ok.2.2 hd p e
  exact Sm.low (by omega) (w1.mono (by decide)) (w2.mono (by decide)) (((show Bw 2 2 by unfold Bw; decide).mul B2).mono (by decide))
theorem bsOk60 {bs : List Bn} (ok : ∀ x ∈ bs, Bn.ok60 x) : BsOk bs := by
  have ok' : ∀ x ∈ bs, Bn.ok x := fun x hx => (ok x hx).ok
  obtain ⟨n8, okO⟩ := leastN_ok ok'
  have mem : ∀ x, some x ∈ leastN bs → x ∈ bs := fun x hx => by
    unfold leastN at hx
    obtain ⟨k, hk, e⟩ := List.mem_map.mp hx
    cases k with
    | none => cases e
    | some j => exact List.mem_of_getElem? (show bs[j]? = some x from e)
  have B2 := comB_bw (k := 60) (ns := leastN bs) (B := 1) (n := 1) (fun x hx => (ok x (mem x hx)).2.2.2.2) Bw.one
  rw [n8] at B2
  exact ⟨ok', B2.mono (by decide), prs_of n8 okO B2 (fun x hx => ⟨(ok x (mem x hx)).2.2.1, (ok x (mem x hx)).2.2.2.1⟩) (by decide)⟩
theorem rowsI_d {bs : List Bn} {n : Nat} : ∀ x ∈ rowsI bs n, x.d < n := by
  intro x hx
  unfold rowsI at hx
  obtain ⟨d, hd, e⟩ := List.mem_filterMap.mp hx
  unfold rowsF at e
  obtain ⟨p, -, rfl⟩ := Option.map_eq_some_iff.mp e
  exact List.mem_range.mp hd
theorem rowsP_eq {bs : List Bn} (h : barP bs = false) : rowsP bs = rowsI bs 8 := if_neg (by rw [h]; simp)
theorem rowsP_d {bs : List Bn} : ∀ x ∈ rowsP bs, x.d < 8 := by
  cases h : barP bs with
  | true =>
    rw [show rowsP bs = [⟨0, 0, 0, 1⟩, ⟨4, 0, 0, 1⟩] from if_pos h]
    decide
  | false =>
    rw [rowsP_eq h]
    exact rowsI_d
theorem rowsP_len {bs : List Bn} : (rowsP bs).length ≤ 8 := by
  cases h : barP bs with
  | true =>
    rw [show rowsP bs = [⟨0, 0, 0, 1⟩, ⟨4, 0, 0, 1⟩] from if_pos h]
    decide
  | false =>
    rw [rowsP_eq h]
    exact rowsI_len
theorem pc_none {m : Str} {u : V} (h : (m == ("bounds" : Str)) = false) : ([(("bounds" : Str), u)] : List (Str × V)).lookup m = none := by simp [List.lookup, h]
theorem tw_bw {d : Nat} {t b t' b' : Int} (hd : d < 8) (h1 : Bw 400 t) (h2 : Bw 400 b) (h3 : Bw 400 t') (h4 : Bw 400 b') : Bw 803 (twT d t b t' b') := by
  obtain ⟨v1, v2⟩ := v_bw hd
  exact (((v1.mul h1).mul h4).add ((v2.mul h3).mul h2)).mono (by decide)
abbrev s_Piece_init : Stmt := inClass (top 70) 0
theorem sc_Piece_init : FnScope ["self", "bounds"] ["self", "bounds"] (defScope s_Piece_init) := ⟨rfl, rfl, rfl, by decide +kernel, rfl, by decide +kernel, by decide +kernel⟩

def sp_Piece_init (Z : Zs) : Sp := fun vs H Q E =>
  ∃ p dx v, vs = [.ref p, v] ∧ H p = some (.ins Z.c_Piece dx []) ∧ ((∃ n, BndBad Z H v n ∧ ErX Z.c_BadBounds "index" (.int n) H E) ∨ ∃ bs, BndOk Z H v bs ∧ BsOk bs ∧ ∀ H', SameX p H H' → PieceAt Z H' (.ref p) bs → Q .non H')
theorem ok_Piece_init (T : Txt Z mg) (h_tightened : Has P w Z.K mg base "tightened" 5 ["numbers"] (sp_tightened Z)) (h_least_numbers : Has P w Z.K mg base "least_numbers" 8 ["bounds"] (sp_least_numbers Z)) (h_check_bounds : Has P w Z.K mg base "check_bounds" 4 ["bounds"] (sp_check_bounds Z)) (D : AtC Z.K mg "Piece" Z.c_Piece "Piece.__init__" s_Piece_init ["self", "bounds"]) : HasC P w Z.K mg base "Piece" Z.c_Piece 9 ["self", "bounds"] (sp_Piece_init Z) := by
  refine D.ok sc_Piece_init (fun vs H Q E h => ?_) (fun cdv A outer s H vs Q E hr h => ?_)
  · obtain ⟨p, dx, v, rfl, _⟩ := h
    rfl
  · refine ⟨_, (pss_cons (ps_expr (pe_h (E := ED E) h_check_bounds hr (paW (takes_of rfl rfl rfl rfl)) (pa_cons (pv 1) pa_nil)))
      (pss_one (ps_fld (pv 0) (pe_h (E := ED E) h_tightened hr (paW (takes_of rfl rfl rfl rfl)) (pa_cons (pe_h (E := ED E) h_least_numbers hr (paW (takes_of rfl rfl rfl rfl)) (pa_cons (pv 1) pa_nil)) pa_nil)) rfl))), ?_⟩
    try simp only [cxOf]
    obtain ⟨p, dx, v, rfl, hp, ⟨n, hb, er⟩ | ⟨bs, hb, bsk, q⟩⟩ := h
    · walk_at "W"
      exact ⟨_, rfl, .inl ⟨n, hb, er⟩⟩
    walk_at "W"
    refine ⟨_, rfl, .inr ⟨bs, hb, fun H1 s1 => ?_⟩⟩
    obtain ⟨a, xs, rfl, lt, l4, hbs, ok⟩ := hb
    obtain ⟨n8, okO⟩ := leastN_ok ok
    walk_at "W"
    refine ⟨a, xs, bs, rfl, lt.same s1, l4, hbs.same s1, ok, fun u zs H2 hu s2 eu nz => ?_⟩
    walk_at "W"
    have S2 := s1.trans s2
    have fin : ∀ {u' ws H3}, Same H2 H3 → H3 u' = some (.tup ws) → (barP bs = true ∧ ws = [] ∨ barP bs = false ∧ TgsAt Z.c_Root H3 ws (comB (leastN bs) 1) (tigO (leastN bs))) → StoP Z.K "bounds" (.ref u') (.ref p) H3 fun H3 => Q .non H3 := fun {u' ws H3} s3 e3 hh => by
      have S3 := S2.trans s3
      have np : ∀ {a : Addr} {o : HO}, H3 a = some o → (∀ C d, o ≠ .ins C d []) → a ≠ p := fun {a o} e h z => by
        rw [z, S3 _ _ hp] at e
        cases e
        exact h _ _ rfl
      refine w_sto (S3 _ _ hp) T.c_Piece T.nf_Piece_bounds rfl fun H4 x4 e4 => ?_
      refine q H4 ((Same.x S3).trans x4) ⟨p, dx, u', ws, rfl, e4, x4 _ _ (np e3 (fun _ _ => by simp)) e3, bsk, hh.imp id fun ⟨hb, tg⟩ => ⟨hb, tg.1, fun i z o h1 h2 => ?_⟩⟩
      have h := tg.2 i z o h1 h2
      cases o with
      | none => exact h
      | some r =>
        obtain ⟨b, db, rfl, eb⟩ := h
        exact ⟨b, db, rfl, x4 _ _ (np eb (fun _ _ => by simp [rootF])) eb⟩
    refine ⟨u, zs, leastN bs, rfl, eu, nz, by rw [nz.1, n8], okO, bsk.2.1, bsk.2.2, fun hb v H3 s3 e3 => ?_, fun hb v ws H3 s3 e3 tg => ?_⟩
    · walk_at "W"
      exact fin s3 e3 (.inl ⟨hb, rfl⟩)
    · walk_at "W"
      exact fin s3 e3 (.inr ⟨hb, tg⟩)
abbrev s_Piece_is_empty : Stmt := inClass (top 70) 3
theorem sc_Piece_is_empty : FnScope ["self"] ["self"] (defScope s_Piece_is_empty) := ⟨rfl, rfl, rfl, by decide +kernel, rfl, by decide +kernel, by decide +kernel⟩

def sp_Piece_is_empty (Z : Zs) : Sp := fun vs H Q E =>
  ∃ v bs, vs = [v] ∧ PieceAt Z H v bs ∧ Q (.bl (barP bs)) H
theorem ok_Piece_is_empty (T : Txt Z mg)  (D : AtM Z.K Z.c_Piece "is_empty" "Piece.is_empty" s_Piece_is_empty ["self"]) : HasM P w Z.K mg base Z.c_Piece "is_empty" 1 ["self"] (sp_Piece_is_empty Z) := by
  refine D.ok sc_Piece_is_empty (fun vs H Q E h => ?_) (fun cdv A outer s H vs Q E hr h => ?_)
  · obtain ⟨v, bs, rfl, _⟩ := h
    rfl
  · refine ⟨_, (pss_one (ps_ret (pe_cmpR op_eq (pe_callB cn_len rfl T.n_len (by decide +kernel) (pa_cons (pe_fld (pv 0) rfl) pa_nil)) pe_int (nomark _)))), ?_⟩
    try simp only [cxOf]
    obtain ⟨v, bs, rfl, ⟨a, dx, u, ws, rfl, e1, e2, ok, hh⟩, q⟩ := h
    walk_at "W"
    refine w_fld e1 T.c_Piece T.nf_Piece_bounds (show ([(("bounds" : Str), V.ref u)] : List (Str × V)).lookup ("bounds" : Str) = some (.ref u) by simp [List.lookup]) ?_
    walk_at "W"
    refine w_lenT (SqT.of e2) ?_
    walk_at "W"
    rcases hh with ⟨hb, rfl⟩ | ⟨hb, tg⟩
    · rw [hb] at q
      exact q
    · rw [hb] at q
      have : ws.length = 8 := by rw [tg.1]; unfold tigO; rw [List.length_map, List.length_range]
      rw [this]
      exact q
abbrev s_rows_of : Stmt := top 66
theorem sc_rows_of : FnScope ["piece", "d", "number"] ["piece"] (defScope s_rows_of) := ⟨rfl, rfl, rfl, by decide +kernel, rfl, by decide +kernel, by decide +kernel⟩

def sp_rows_of (Z : Zs) : Sp := fun vs H Q E =>
  ∃ v bs, vs = [v] ∧ PieceAt Z H v bs ∧ ∀ u ws H', H u = none → Same H H' → H' u = some (.lst ws) → BnsAt Z.c_Root H' ws (rowsP bs) → Q (.ref u) H'
theorem ok_rows_of (T : Txt Z mg) (h_Piece_is_empty : HasM P w Z.K mg base Z.c_Piece "is_empty" 1 ["self"] (sp_Piece_is_empty Z)) (D : AtF Z.K mg "rows_of" "rows_of" s_rows_of ["piece"]) : Has P w Z.K mg base "rows_of" 2 ["piece"] (sp_rows_of Z) := by
  refine D.ok sc_rows_of (fun vs H Q E h => ?_) (fun cdv A outer s H vs Q E hr h => ?_)
  · obtain ⟨v, bs, rfl, _⟩ := h
    rfl
  · refine ⟨_, (pss_cons (ps_if (pt_val (pe_hm0 (E := ED E) h_Piece_is_empty T.c_Piece hr (paW (takes_of rfl rfl rfl rfl)) (pv 0))) (pss_one (ps_ret (pe_lst (pa_cons (pe_tup (pa_cons pe_int (pa_cons pe_int pa_nil))) (pa_cons (pe_tup (pa_cons pe_int (pa_cons pe_int pa_nil))) pa_nil))))) pss_nil)
      (pss_one (ps_ret (pe_lc (own := [("d", 1), ("number", 2)]) (g := gTup Z.K 2 (gCons (gName 1) (gCons (gName 2) gNil))) rfl sc_rows_of.nd (pi_enumTZ (K := Z.K) rfl rfl T.n_enumerate (pa_cons (pe_fld (pv 0) rfl) pa_nil)) (blkOk_by (N := ["piece", "d", "number"]) (sc := (defScope s_rows_of)) (by decide +kernel)) (fun _ _ _ _ _ => pg_tup rfl (pgs_cons (pg_name (i := 1) sc_rows_of.nd rfl (Or.inl rfl)) (pgs_cons (pg_name (i := 2) sc_rows_of.nd rfl (Or.inl rfl)) pgs_nil))) (fun _ _ _ _ _ => (pts_one (pt_cmpR op_notN (pv 2) pe_non (nomark _)))) (fun _ _ _ _ _ => (pe_tup (pa_cons (pv 1) (pa_cons (pv 2) pa_nil)))))))), ?_⟩
    try simp only [cxOf]
    obtain ⟨v, bs, rfl, hP, q⟩ := h
    have hP0 := hP
    obtain ⟨a, dx, u, ws, rfl, e1, e2, ok, hh⟩ := hP
    walk_at "W"
    refine k_meth e1 (pc_none (by decide +kernel)) ?_
    walk_at "W"
    refine ⟨_, bs, rfl, hP0, ?_⟩
    rcases hh with ⟨hb, rfl⟩ | ⟨hb, tg⟩
    · have eR : rowsP bs = [⟨0, 0, 0, 1⟩, ⟨4, 0, 0, 1⟩] := if_pos hb
      rw [hb]
      walk_at "W"
      refine k_tup rfl fun u1 H1 hu1 s1 f1 => ?_
      walk_at "W"
      refine k_tup rfl fun u2 H2 hu2 s2 f2 => ?_
      walk_at "W"
      refine k_lst rfl fun l H3 hl s3 f3 => ?_
      refine q l _ H3 ((s1.trans s2).free hl) (s1.trans (s2.trans s3)) f3 ?_
      rw [eR]
      have z : ∀ {d : Nat} {w : Addr}, H3 w = some (.tup [.int (d : Nat), .int 0]) → BnAt Z.c_Root H3 (.ref w) ⟨d, 0, 0, 1⟩ := fun {d w} e => ⟨w, _, rfl, e, .inr ⟨0, rfl, rfl, rfl, rfl⟩, sm_int (Bw.zero.mono (by decide))⟩
      refine ⟨rfl, fun i v x h1 h2 => ?_⟩
      rcases i with _ | _ | i
      · cases h1
        cases h2
        exact z (d := 0) (s3 _ _ (s2 _ _ f1))
      · cases h1
        cases h2
        exact z (d := 4) (s3 _ _ f2)
      · simp at h1
    · have eR : rowsP bs = rowsI bs 8 := if_neg (by rw [hb]; simp)
      have w8 : ws.length = 8 := by rw [tg.1]; unfold tigO; rw [List.length_map, List.length_range]
      rw [hb]
      walk_at "W"
      refine w_fld e1 T.c_Piece T.nf_Piece_bounds (show ([(("bounds" : Str), V.ref u)] : List (Str × V)).lookup ("bounds" : Str) = some (.ref u) by simp [List.lookup]) ?_
      walk_at "W"
      refine k_lcEnT (xs := ws) (fun n D H' => H D = none ∧ Same H H' ∧ ∃ zs, H' D = some (.lst zs) ∧ BnsAt Z.c_Root H' zs (rowsI bs n)) (SqT.of e2) (fun D hD => ⟨hD, Same.new hD, [], upd_same, rfl, fun i v x h => by simp at h⟩) (fun n D H' h => SqT.of (h.2.1 _ _ e2)) ?_ ?_
      · rintro n x D H2 T' H3 hx ⟨hD, s2, zs, ez, bz⟩ hT s3 eT
        have n8 : n < 8 := by rw [← w8]; exact (List.getElem?_eq_some_iff.mp hx).1
        have hg := tg.2 n x (lprO ((leastN bs).map (prO (comB (leastN bs) 1))) n) hx (by unfold tigO; rw [List.getElem?_map, List.getElem?_range n8]; rfl)
        have hrow : rowsF bs n = (lprO ((leastN bs).map (prO (comB (leastN bs) 1))) n).map fun p => lowBn n p.1 p.2 (2 * comB (leastN bs) 1) := rfl
        have sm := fun p => sm_tight ok n8 (p := p)
        refine k_tupl2 eT rfl rfl ?_
        refine ⟨rfl, ?_⟩
        rw [rowsI_succ, hrow]
        have zl : zs.length ≤ 8 := by rw [bz.1]; have := rowsI_len (bs := bs) (n := n); omega
        generalize lprO ((leastN bs).map (prO (comB (leastN bs) 1))) n = o at *
        walk_at "W"
        try with_reducible refine L2.My.w_isN ?_
        cases o with
        | none =>
          obtain rfl : x = .non := hg
          walk_at "W"
          simp only [Option.map_none, Option.toList_none, List.append_nil]
          exact ⟨hD, s2.trans s3, zs, s3 _ _ ez, bz.same s3⟩
        | some p =>
          obtain ⟨ra, rd, rfl, re⟩ := hg
          walk_at "W"
          refine k_tup rfl fun w H4 hw s4 e4 => ?_
          have ez4 := s4 _ _ (s3 _ _ ez)
          have kp : ∀ {zs' : List V}, Kps H4 (upd H4 D (.lst zs')) := fun {zs'} => Kps.sx ez4 (SameX.upd fun _ _ _ e => e)
          refine ⟨zs, ez4, few_lt (by omega), hD, fun b o eb => ?_, _, upd_same, ?_⟩
          · rw [upd_ne (ne_of_none eb hD)]
            exact s4 _ _ (s3 _ _ (s2 _ _ eb))
          · have b4 : BnAt Z.c_Root H4 (.ref w) (lowBn n p.1 p.2 (2 * comB (leastN bs) 1)) := ⟨w, _, rfl, e4, .inl ⟨ra, rd, rfl, s4 _ _ (s3 _ _ (s2 _ _ re))⟩, sm p rfl⟩
            exact (((bz.same s3).same s4).kps kp).add (b4.kps kp)
      · rintro D H2 ⟨hD, s2, zs, ez, bz⟩
        rw [w8, ← eR] at bz
        exact q D zs H2 hD s2 ez bz
abbrev s_Piece_has : Stmt := inClass (top 70) 2
theorem sc_Piece_has : FnScope ["self", "point", "d", "number"] ["self", "point"] (defScope s_Piece_has) := ⟨rfl, rfl, rfl, by decide +kernel, rfl, by decide +kernel, by decide +kernel⟩

def sp_Piece_has (Z : Zs) : Sp := fun vs H Q E =>
  ∃ (v : V) (bs : List Bn) (p : Addr) (x y : V) (t r b t' r' b' : Int), vs = [v, .ref p] ∧ PieceAt Z H v bs ∧ H p = some (.tup [x, y]) ∧ NumAt Z.c_Root H x t r b ∧ NumAt Z.c_Root H y t' r' b' ∧ Sm t r b ∧ Sm t' r' b' ∧ Bw 400 t ∧ Bw 400 r ∧ Bw 400 b ∧ Bw 400 t' ∧ Bw 400 r' ∧ Bw 400 b' ∧
    ∀ H', Same H H' → Q (.bl ((rowsP bs).all (letB t r b t' r' b'))) H'
theorem ok_Piece_has (T : Txt Z mg) (h_rows_of : Has P w Z.K mg base "rows_of" 2 ["piece"] (sp_rows_of Z)) (h_toward : Has P w Z.K mg base "toward" 8 ["d", "point"] (sp_toward Z)) (h_Root_less : HasM P w Z.K mg base Z.c_Root "less" 6 ["self", "number"] (sp_Root_less Z)) (D : AtM Z.K Z.c_Piece "has" "Piece.has" s_Piece_has ["self", "point"]) : HasM P w Z.K mg base Z.c_Piece "has" 9 ["self", "point"] (sp_Piece_has Z) := by
  refine D.ok sc_Piece_has (fun vs H Q E h => ?_) (fun cdv A outer s H vs Q E hr h => ?_)
  · obtain ⟨v, bs, p, x, y, t, r, b, t', r', b', rfl, _⟩ := h
    rfl
  · refine ⟨_, (pss_one (ps_ret (pe_callB (cr_all rfl) rfl T.n_all (by decide +kernel) (pa_cons (pe_lc (own := [("d", 2), ("number", 3)]) (g := gTup Z.K 2 (gCons (gName 2) (gCons (gName 3) gNil))) rfl sc_Piece_has.nd (pi_list (pe_h (E := ED E) h_rows_of hr (paW (takes_of rfl rfl rfl rfl)) (pa_cons (pv 0) pa_nil))) (blkOk_by (N := ["self", "point", "d", "number"]) (sc := (defScope s_Piece_has)) (by decide +kernel)) (fun _ _ _ _ _ => pg_tup rfl (pgs_cons (pg_name (i := 2) sc_Piece_has.nd rfl (Or.inl rfl)) (pgs_cons (pg_name (i := 3) sc_Piece_has.nd rfl (Or.inl rfl)) pgs_nil))) (fun _ _ _ _ _ => pts_nil) (fun _ _ _ _ _ => (pe_hm (E := fun _ => E0) h_Root_less T.c_Root hr pa0 (pe_h (E := fun _ => E0) h_toward hr pa0 (pa_cons (pv 2) (pa_cons (pv 1) pa_nil))) (pa_cons (pv 3) pa_nil)))) pa_nil)))), ?_⟩
    try simp only [cxOf]
    obtain ⟨v, bs, p, x, y, t, r, b, t', r', b', rfl, hP, hp, hx, hy, sm, sm', w1, w2, w3, w4, w5, w6, q⟩ := h
    have b0 := sm.pos
    have b0' := sm'.pos
    walk_at "W"
    refine ⟨v, bs, rfl, hP, fun u ws H1 hu s1 eu bz => ?_⟩
    have d8 : ∀ x ∈ rowsP bs, x.d < 8 := rowsP_d
    have l8 := rowsP_len (bs := bs)
    generalize rowsP bs = rs at *
    walk_at "W"
    refine k_lcL (xs := ws) (fun n D H' => H1 D = none ∧ Same H1 H' ∧ H' D = some (.lst (((rs.take n).map (letB t r b t' r' b')).map V.bl))) (SqL.of eu) (fun D hD => ⟨hD, Same.new hD, upd_same⟩) (fun n D H' h => SqL.of (h.2.1 _ _ eu)) ?_ ?_
    · rintro n z D H2 hz ⟨hD, s2, eD⟩
      have nl : n < rs.length := by rw [← bz.1]; exact (List.getElem?_eq_some_iff.mp hz).1
      have ex := List.getElem?_eq_getElem nl
      have hb := bz.2 n z _ hz ex
      have dx := d8 _ (List.getElem_mem nl)
      have tk : rs.take (n + 1) = rs.take n ++ [rs[n]] := by rw [List.take_add_one, ex]; rfl
      rw [tk]
      generalize rs[n] = bn at *
      obtain ⟨qq, yy, rfl, eq, ny, sy⟩ := hb
      have S := s1.trans s2
      refine k_tupl2 (s2 _ _ eq) rfl rfl ?_
      refine ⟨rfl, w_yes (w_T rfl ?_)⟩
      walk_at "W"
      refine ⟨bn.d, p, x, y, t, r, b, t', r', b', rfl, dx, S _ _ hp, hx.same S, hy.same S, sm, sm', w1, w2, w3, w4, w5, w6, fun w H3 s3 hw => ?_⟩
      have hb0 : b * b' ≠ 0 := Int.mul_ne_zero (by omega) (by omega)
      have bwb : Bw 803 (b * b') := (w3.mul w6).mono (by decide)
      have slow := Sm.low hb0 ((tw_bw dx w1 w3 w4 w6).mono (by decide)) ((tw_bw dx w2 w3 w5 w6).mono (by decide)) (bwb.mono (by decide))
      have nyS := ny.same (s2.trans s3)
      obtain ⟨wa, wd, rfl, we⟩ := id hw
      refine k_meth we (rf_none (by decide +kernel) (by decide +kernel) (by decide +kernel)) ?_
      walk_at "W"
      refine ⟨_, yy, _, _, _, rfl, hw, slow, nyS.th, .inr ⟨_, _, _, nyS, sy, fun H4 s4 => ?_⟩⟩
      have eD4 := s4 _ _ (s3 _ _ eD)
      refine ⟨_, eD4, few_lt (by simp; omega), hD, fun o ob eb => ?_, ?_⟩
      · rw [upd_ne (ne_of_none eb hD)]
        exact s4 _ _ (s3 _ _ (s2 _ _ eb))
      · rw [upd_same, List.map_append, List.map_append]
        rfl
    · rintro D H2 ⟨hD, s2, eD⟩
      rw [bz.1, List.take_length] at eD
      walk_at "W"
      refine w_all (SqL.of eD) ?_
      have := q H2 (s1.trans s2)
      rw [show (rs.map (letB t r b t' r' b')).all id = rs.all (letB t r b t' r' b') by rw [List.all_map]; rfl]
      exact this
theorem BnsAt.app {c : Addr} {H : Hp} {zs ys : List V} {ns ms : List Bn} (h : BnsAt c H zs ns) (k : BnsAt c H ys ms) : BnsAt c H (zs ++ ys) (ns ++ ms) := by
  refine ⟨by simp [h.1, k.1], fun i y p h1 h2 => ?_⟩
  rcases Nat.lt_or_ge i zs.length with l | l
  · rw [List.getElem?_append_left l] at h1
    rw [List.getElem?_append_left (by rw [← h.1]; exact l)] at h2
    exact h.2 i y p h1 h2
  · rw [List.getElem?_append_right l] at h1
    rw [List.getElem?_append_right (by rw [← h.1]; exact l), ← h.1] at h2
    exact k.2 _ y p h1 h2
theorem BndOk.same {H H' : Hp} {v : V} {bs : List Bn} (h : BndOk Z H v bs) (s : Same H H') : BndOk Z H' v bs := by
  obtain ⟨a, vs, rfl, lt, l, b, o⟩ := h
  exact ⟨a, vs, rfl, lt.same s, l, b.same s, o⟩
theorem k_mkPiece {v : V} {bs : List Bn} {H : Hp} {Q : VK} {E : XK} (hb : BndOk Z H v bs) (bk : BsOk bs) (ok : ∀ u H', Same H H' → PieceAt Z H' u bs → Q u H') : MkC Z.c_Piece (sp_Piece_init Z) E [v] H Q := by
  intro x dx nx ndx nex
  have s0 : Same H (upd (upd H dx (.own x)) x (.ins Z.c_Piece dx [])) := fun b o e => by
    rw [upd_ne (ne_of_none e nx), upd_ne (ne_of_none e ndx)]; exact e
  have sx : ∀ H', SameX x (upd (upd H dx (.own x)) x (.ins Z.c_Piece dx [])) H' → Same H H' := fun H' s b o e => s b o (ne_of_none e nx) (s0 b o e)
  exact ⟨x, dx, v, rfl, upd_same, .inr ⟨bs, BndOk.same hb s0, bk, fun H' s hP => ⟨rfl, ok _ H' (sx H' s) hP⟩⟩⟩
/-- the state of the draws: cells, at, pend, mix, count -/
def St5 (H : Hp) (p q : Addr) : Prop := ∃ (ns : List Int) (at_ pend mix cnt : Int), H p = some (.lst [.ref q, .int at_, .int pend, .int mix, .int cnt]) ∧ H q = some (.lst (ns.map V.int)) ∧ q ≠ p ∧ 0 ≤ at_ ∧ 0 ≤ pend
theorem St5.same {H H' : Hp} {p q : Addr} (h : St5 H p q) (s : Same H H') : St5 H' p q := by
  obtain ⟨ns, at_, pend, mix, cnt, h1, h2, h3⟩ := h
  exact ⟨ns, at_, pend, mix, cnt, s _ _ h1, s _ _ h2, h3⟩
theorem St5.ne {H : Hp} {p q b : Addr} {o : HO} (h : St5 H p q) (e : H b = some o) (n : ∀ xs, o ≠ .lst xs) : b ≠ p := by
  obtain ⟨ns, at_, pend, mix, cnt, h1, h2, _⟩ := h
  intro z
  rw [z, h1] at e
  cases e
  exact n _ rfl
theorem St5.kps {H H' : Hp} {p q : Addr} (h : St5 H p q) (s : SameX p H H') : Kps H H' := fun b o n e => s b o (h.ne e n) e
theorem St5.new {H : Hp} {p q b : Addr} (h : St5 H p q) (e : H b = none) : b ≠ p ∧ b ≠ q := by
  obtain ⟨ns, at_, pend, mix, cnt, h1, h2, _⟩ := h
  exact ⟨fun z => (by rw [z, h1] at e; cases e), fun z => (by rw [z, h2] at e; cases e)⟩
theorem St5.other {H : Hp} {p q b : Addr} {o : HO} (h : St5 H p q) (n : b ≠ p ∧ b ≠ q) : St5 (upd H b o) p q := by
  obtain ⟨ns, at_, pend, mix, cnt, h1, h2, h3⟩ := h
  exact ⟨ns, at_, pend, mix, cnt, by rw [upd_ne (Ne.symm n.1)]; exact h1, by rw [upd_ne (Ne.symm n.2)]; exact h2, h3⟩
local macro_rules | `(tactic| walk_at "s") => `(tactic| first | with_reducible refine L2.My.w_augS ?_ | with_reducible refine L2.My.w_isN ?_)
theorem cut_len5 {xs : List V} {k : Nat} : (cutV xs none (some (k : Int))).length ≤ k := by
  unfold cutV
  rw [HT.sIx_none, HT.sIx_nat, List.length_take]
  omega
theorem cut_ints5 (ns : List Int) {k : Nat} : ∃ ms : List Int, cutV (ns.map V.int) none (some (k : Int)) = ms.map V.int ∧ ms.length ≤ k := by
  obtain ⟨ms, e⟩ := cut_ints ns none (some (k : Int))
  refine ⟨ms, e, ?_⟩
  have := cut_len5 (xs := ns.map V.int) (k := k)
  rw [e, List.length_map] at this
  exact this
abbrev s__law_dice : Stmt := top 80
theorem sc__law_dice : FnScope ["script", "cell"] ["script"] (defScope s__law_dice) := ⟨rfl, rfl, rfl, by decide +kernel, rfl, by decide +kernel, by decide +kernel⟩

def sp__law_dice (Z : Zs) : Sp := fun vs H Q E =>
  ∃ (a : Addr) (ns : List Int), vs = [.ref a] ∧ SqL Z.K H a (ns.map V.int) ∧ ∀ p c H', H p = none → Same H H' → St5 H' p c → Q (.ref p) H'
theorem ok__law_dice (T : Txt Z mg)  (D : AtF Z.K mg "_law_dice" "_law_dice" s__law_dice ["script"]) : Has P w Z.K mg base "_law_dice" 1 ["script"] (sp__law_dice Z) := by
  refine D.ok sc__law_dice (fun vs H Q E h => ?_) (fun cdv A outer s H vs Q E hr h => ?_)
  · obtain ⟨a, ns, rfl, _⟩ := h
    rfl
  · refine ⟨_, (pss_one (ps_ret (pe_lst (pa_cons (pe_lc (own := [("cell", 1)]) (g := gName 1) rfl sc__law_dice.nd (pi_list (pe_slice sl_list (pv 0) po_none (po_some pe_int))) (blkOk_by (N := ["script", "cell"]) (sc := (defScope s__law_dice)) (by decide +kernel)) (fun _ _ _ _ _ => pg_name (i := 1) sc__law_dice.nd rfl (Or.inl rfl)) (fun _ _ _ _ _ => pts_nil) (fun _ _ _ _ _ => (pe_callTy cn_int rfl T.n_int (by decide +kernel) (pa_cons (pv 1) pa_nil)))) (pa_cons pe_int (pa_cons pe_int (pa_cons pe_int (pa_cons pe_int pa_nil)))))))), ?_⟩
    try simp only [cxOf]
    obtain ⟨a, ns, rfl, hs, q⟩ := h
    walk_at "W"
    refine k_slL hs fun l H1 hl s1 e1 => ?_
    obtain ⟨ms, em, ml⟩ := cut_ints5 ns (k := 63)
    rw [show (some (63 : Int)) = some ((63 : Nat) : Int) from rfl, em] at e1
    refine k_lcInts (f := fun z => z) (ns := ms) (SqL.of e1) (by omega) (fun _ => rfl) (fun H' s => SqL.of (s _ _ e1)) ?_ ?_
    · intro z H' hz s N hN
      walk_at "W"
      exact hN
    · intro D H2 hD s2 e2
      walk_at "W"
      refine k_lst rfl fun p H3 hp s3 e3 => ?_
      rw [List.map_id'] at e2
      exact q p D H3 ((s1.trans s2).free hp) (s1.trans (s2.trans s3)) ⟨ms, 0, 0, 1, 0, e3, s3 _ _ e2, fun z => (by rw [z] at e2; rw [hp] at e2; cases e2), by decide, by decide⟩
abbrev s__law_draw : Stmt := top 81
theorem sc__law_draw : FnScope ["dice", "many", "cell", "digit", "number"] ["dice", "many"] (defScope s__law_draw) := ⟨rfl, rfl, rfl, by decide +kernel, rfl, by decide +kernel, by decide +kernel⟩

def sp__law_draw (Z : Zs) : Sp := fun vs H Q E =>
  ∃ p c many, vs = [.ref p, .int many] ∧ St5 H p c ∧ 0 < many ∧ Bw 70 many ∧ ∀ n H', 0 ≤ n → n < many → SameX p H H' → St5 H' p c → Q (.int n) H'
theorem ok__law_draw (T : Txt Z mg)  (D : AtF Z.K mg "_law_draw" "_law_draw" s__law_draw ["dice", "many"]) : Has P w Z.K mg base "_law_draw" 1 ["dice", "many"] (sp__law_draw Z) := by
  refine D.ok sc__law_draw (fun vs H Q E h => ?_) (fun cdv A outer s H vs Q E hr h => ?_)
  · obtain ⟨p, c, many, rfl, _⟩ := h
    rfl
  · refine ⟨_, (C8.pss_cut (ps_if (PW.pt (pw_and (pt_cmpR op_eq (pe_ix ix_seq (pv 0) pe_int (fun _ _ => rfl)) pe_int (nomark _)) (pw_and1 (pt_cmpR op_lt (pe_ix ix_seq (pv 0) pe_int (fun _ _ => rfl)) (pe_callB cn_len rfl T.n_len (by decide +kernel) (pa_cons (pe_ix ix_seq (pv 0) pe_int (fun _ _ => rfl)) pa_nil)) (nomark _))))) (pss_cons (ps_set (i := 2) sc__law_draw.nd rfl (Or.inl rfl) (pe_ix ix_seq (pe_ix ix_seq (pv 0) pe_int (fun _ _ => rfl)) (pe_ix ix_seq (pv 0) pe_int (fun _ _ => rfl)) (fun _ _ => rfl)))
      (pss_cons (ps_augS (pv 0) pe_int get_list pe_int ip_add set_list)
      (pss_one (ps_if (pt_cmpR op_ge (pe_callB cn_abs rfl T.n_abs (by decide +kernel) (pa_cons (pv 2) pa_nil)) (pe_op op_pow pe_int pe_int) (nomark _)) (pss_one (ps_asg (pe_callB cn_abs rfl T.n_abs (by decide +kernel) (pa_cons (pv 2) pa_nil)) (pg_sub (pv 0) pe_int set_list))) (pss_one (ps_asg (pe_op op_mod (pe_callTy cn_int rfl T.n_int (by decide +kernel) (pa_cons (pe_op op_add (pe_op op_add (pe_op op_add (pe_op op_mulS (pe_ix ix_seq (pv 0) pe_int (fun _ _ => rfl)) pe_int) (pe_op op_mulS pe_int (pe_callB cn_abs rfl T.n_abs (by decide +kernel) (pa_cons (pv 2) pa_nil)))) (pe_callTy cn_int rfl T.n_int (by decide +kernel) (pa_cons (pe_cmpR op_lt (pv 2) pe_int (nomark _)) pa_nil))) (pe_op op_mulS pe_int (pe_ix ix_seq (pv 0) pe_int (fun _ _ => rfl)))) pa_nil)) pe_int) (pg_sub (pv 0) pe_int set_list))))))) pss_nil)
      (pss_cons (ps_if (pt_cmpR op_gt (pe_ix ix_seq (pv 0) pe_int (fun _ _ => rfl)) pe_int (nomark _)) (pss_cons (ps_set (i := 3) sc__law_draw.nd rfl (Or.inl rfl) (pe_op op_mod (pe_callTy cn_int rfl T.n_int (by decide +kernel) (pa_cons (pe_ix ix_seq (pv 0) pe_int (fun _ _ => rfl)) pa_nil)) (pv 1)))
      (pss_cons (ps_asg (pe_op op_fdivW (pe_ix ix_seq (pv 0) pe_int (fun _ _ => rfl)) (pv 1)) (pg_sub (pv 0) pe_int set_list))
      (pss_one (ps_ret (pv 3))))) pss_nil)
      (pss_cons (ps_augS (pv 0) pe_int get_list pe_int ip_add set_list)
      (pss_cons (ps_set (i := 4) sc__law_draw.nd rfl (Or.inl rfl) (pe_op op_mod (pe_callTy cn_int rfl T.n_int (by decide +kernel) (pa_cons (pe_op op_mulS (pe_op op_add (pe_op op_add (pe_ix ix_seq (pv 0) pe_int (fun _ _ => rfl)) (pe_op op_mulS pe_int (pe_ix ix_seq (pv 0) pe_int (fun _ _ => rfl)))) pe_int) pe_int) pa_nil)) pe_int))
      (pss_cons (ps_set (i := 4) sc__law_draw.nd rfl (Or.inl rfl) (pe_op op_mod (pe_callTy cn_int rfl T.n_int (by decide +kernel) (pa_cons (pe_op op_mulS (pv 4) (pe_op op_add (pe_op op_fdivW (pv 4) pe_int) pe_int)) pa_nil)) pe_int))
      (pss_cons (ps_set (i := 4) sc__law_draw.nd rfl (Or.inl rfl) (pe_op op_mod (pe_callTy cn_int rfl T.n_int (by decide +kernel) (pa_cons (pe_op op_mulS (pv 4) (pe_op op_add (pe_op op_fdivW (pv 4) pe_int) pe_int)) pa_nil)) pe_int))
      (pss_one (ps_ret (pe_op op_mod (pe_callTy cn_int rfl T.n_int (by decide +kernel) (pa_cons (pe_op op_fdivW (pv 4) pe_int) pa_nil)) (pv 1)))))))))), ?_⟩
    try simp only [cxOf]
    obtain ⟨p, c, many, rfl, st0, hm, hmb, q⟩ := h
    have hdw : ∀ x : Int, CDivW x many := fun x => wide_div hm (hmb.bd (by decide)) (by decide) (by decide)
    walk_at "W"
    refine w_cut (fun σ' H' => SameX p H H' ∧ St5 H' p c ∧ ∃ v, σ' = [some (.ref p), some (.int many), v, none, none]) ?_ ?_
    · obtain ⟨ns, at_, pend, mix, cnt, hp, hc, cp, h0, h1⟩ := st0
      walk_at "W"
      refine w_ite (fun hg => ?_) (fun hg => ?_)
      · walk_at "W"
        refine w_lenL (SqL.of hc) ?_
        walk_at "W"
        refine w_ite (fun hl => ?_) (fun hl => ?_)
        · walk_at "W"
          obtain ⟨z, hz⟩ := atI_ints (ns := ns) h0 (by simpa using hl)
          refine w_ixL hc hz ?_
          walk_at "W"
          refine w_getL hp (by decide) rfl ?_
          walk_at "W"
          refine ⟨_, _, rfl, rfl, ?_⟩
          refine w_setL hp rfl fun H1 s1 e1 => ?_
          have hc1 : H1 c = some (.lst (ns.map V.int)) := s1 _ _ cp hc
          walk_at "W"
          refine w_ite (fun hz' => ?_) (fun hz' => ?_)
          · walk_at "W"
            refine w_setL e1 rfl fun H2 s2 e2 => ?_
            walk_at "W"
            exact ⟨s1.trans s2, ⟨ns, at_ + 1, _, mix, cnt, e2, s2 _ _ cp hc1, cp, by omega, Int.natCast_nonneg _⟩, _, rfl⟩
          · walk_at "W"
            refine w_setL e1 rfl fun H2 s2 e2 => ?_
            walk_at "W"
            exact ⟨s1.trans s2, ⟨ns, at_ + 1, pend, _, cnt, e2, s2 _ _ cp hc1, cp, by omega, h1⟩, _, rfl⟩
        · walk_at "W"
          exact ⟨fun _ _ _ h => h, ⟨ns, at_, pend, mix, cnt, hp, hc, cp, h0, h1⟩, _, rfl⟩
      · walk_at "W"
        exact ⟨fun _ _ _ h => h, ⟨ns, at_, pend, mix, cnt, hp, hc, cp, h0, h1⟩, _, rfl⟩
    rintro σ1 H1 ⟨x1, ⟨ns, at_, pend, mix, cnt, hp, hc, cp, h0, h1⟩, v, rfl⟩
    walk_at "W"
    refine w_ite (fun hg => ?_) (fun hg => ?_)
    · walk_at "W"
      refine w_I (hdw _) ?_
      walk_at "W"
      refine w_setL hp rfl fun H2 s2 e2 => ?_
      walk_at "W"
      exact q _ _ (Int.emod_nonneg _ (by omega)) (Int.emod_lt_of_pos _ hm) (x1.trans s2) ⟨ns, at_, pend / many, mix, cnt, e2, s2 _ _ cp hc, cp, h0, Int.ediv_nonneg h1 (by omega)⟩
    walk_at "W"
    refine w_getL hp (by decide) rfl ?_
    walk_at "W"
    refine ⟨_, _, rfl, rfl, ?_⟩
    refine w_setL hp rfl fun H2 s2 e2 => ?_
    walk_at "W"
    exact q _ _ (Int.emod_nonneg _ (by omega)) (Int.emod_lt_of_pos _ hm) (x1.trans s2) ⟨ns, at_, pend, mix, _, e2, s2 _ _ cp hc, cp, h0, h1⟩
abbrev s__law_wide : Stmt := top 82
theorem sc__law_wide : FnScope ["dice", "most", "number", "turn"] ["dice", "most"] (defScope s__law_wide) := ⟨rfl, rfl, rfl, by decide +kernel, rfl, by decide +kernel, by decide +kernel⟩

def sp__law_wide (Z : Zs) : Sp := fun vs H Q E =>
  ∃ p c most, vs = [.ref p, .int most] ∧ St5 H p c ∧ 0 ≤ most ∧ Bw 68 most ∧ ∀ n H', -most ≤ n → n ≤ most → SameX p H H' → St5 H' p c → Q (.int n) H'
theorem ok__law_wide (T : Txt Z mg) (h__law_draw : Has P w Z.K mg base "_law_draw" 1 ["dice", "many"] (sp__law_draw Z)) (D : AtF Z.K mg "_law_wide" "_law_wide" s__law_wide ["dice", "most"]) : Has P w Z.K mg base "_law_wide" 2 ["dice", "most"] (sp__law_wide Z) := by
  refine D.ok sc__law_wide (fun vs H Q E h => ?_) (fun cdv A outer s H vs Q E hr h => ?_)
  · obtain ⟨p, c, most, rfl, _⟩ := h
    rfl
  · refine ⟨_, (pss_cons (ps_if (pt_cmpR op_lt (pv 1) (pe_op op_pow pe_int pe_int) (nomark _)) (pss_one (ps_ret (pe_op op_sub (pe_h (E := ED E) h__law_draw hr (paW (takes_of rfl rfl rfl rfl)) (pa_cons (pv 0) (pa_cons (pe_op op_add (pe_op op_mulS pe_int (pv 1)) pe_int) pa_nil))) (pv 1)))) pss_nil)
      (pss_cons (ps_set (i := 2) sc__law_wide.nd rfl (Or.inl rfl) pe_int)
      (pss_cons (ps_for (passes_of rfl) rfl (pi_range1 rfl T.n_range (pa_cons pe_int pa_nil)) (pg_name (i := 3) sc__law_wide.nd rfl (Or.inl rfl)) (pss_one (ps_set (i := 2) sc__law_wide.nd rfl (Or.inl rfl) (pe_op op_add (pe_op op_mulS (pv 2) (pe_op op_pow pe_int pe_int)) (pe_h (E := ED E) h__law_draw hr (paW (takes_of rfl rfl rfl rfl)) (pa_cons (pv 0) (pa_cons (pe_op op_pow pe_int pe_int) pa_nil)))))))
      (pss_one (ps_ret (pe_op op_sub (pe_op op_mod (pe_callTy cn_int rfl T.n_int (by decide +kernel) (pa_cons (pv 2) pa_nil)) (pe_op op_add (pe_op op_mulS pe_int (pv 1)) pe_int)) (pv 1))))))), ?_⟩
    try simp only [cxOf]
    obtain ⟨p, c, most, rfl, st, m0, wm, q⟩ := h
    walk_at "W"
    refine w_ite (fun hg => ?_) (fun hg => ?_)
    · walk_at "W"
      refine ⟨p, c, _, rfl, st, by omega, by unfold Bw at *; omega, fun n H1 n0 n1 x1 st1 => ?_⟩
      walk_at "W"
      exact q _ H1 (by omega) (by omega) x1 st1
    walk_at "W"
    refine k_forR (fun i σ' H' => (∃ (n : Int) (y : Option V), σ' = [some (.ref p), some (.int most), some (.int n), y]) ∧ SameX p H H' ∧ St5 H' p c) (by decide) (by decide) ⟨⟨0, _, rfl⟩, fun _ _ _ h => h, st⟩ ?_ ?_
    · rintro i σ' H1 hi ⟨⟨n, y, rfl⟩, x1, st1⟩
      have i4 : i < 4 := hi
      walk_at "W"
      refine w_I (.inr (.inl ⟨by decide, by decide⟩)) ?_
      walk_at "W"
      refine ⟨p, c, _, rfl, st1, by decide, by unfold Bw; decide, fun m H2 m0 m1 x2 st2 => ?_⟩
      walk_at "W"
      exact ⟨⟨_, _, rfl⟩, x1.trans x2, st2⟩
    rintro σ' H1 ⟨⟨n, y, rfl⟩, x1, st1⟩
    walk_at "W"
    have := Int.emod_nonneg n (b := 2 * most + 1) (by omega)
    have := Int.emod_lt_of_pos n (b := 2 * most + 1) (by omega)
    exact q _ H1 (by omega) (by omega) x1 st1
/-! a shift over one bottom, led up and down -/
structure Sh where
  (a b c d m : Int)
def upS (S : Sh) : Sh := ⟨-S.a - 2 * S.b, -S.a - S.b, -S.c - 2 * S.d, -S.c - S.d, S.m⟩
def dnS (S : Sh) : Sh := ⟨S.a - 2 * S.b, S.b - S.a, S.c - 2 * S.d, S.d - S.c, S.m⟩
theorem up_dn (S : Sh) : upS (dnS S) = S := by
  cases S
  simp only [upS, dnS, Sh.mk.injEq]
  exact ⟨by omega, by omega, by omega, by omega, trivial⟩
theorem dn_up (S : Sh) : dnS (upS S) = S := by
  cases S
  simp only [upS, dnS, Sh.mk.injEq]
  exact ⟨by omega, by omega, by omega, by omega, trivial⟩
def ups : Nat → Sh → Sh
  | 0, S => S
  | n + 1, S => upS (ups n S)
def dns : Nat → Sh → Sh
  | 0, S => S
  | n + 1, S => dnS (dns n S)
def ledS (S : Sh) : Int → Sh
  | .ofNat n => ups n S
  | .negSucc n => dns (n + 1) S
theorem led_up1 (S : Sh) (k : Int) : ledS S (k + 1) = upS (ledS S k) := by
  rcases k with n | n
  · rfl
  · rcases n with _ | n
    · exact (up_dn S).symm
    · show ledS S (Int.negSucc n) = upS (dnS (dns (n + 1) S))
      rw [up_dn]
      rfl
theorem led_dn1 (S : Sh) (k : Int) : ledS S (k - 1) = dnS (ledS S k) := by
  have h := led_up1 S (k - 1)
  rw [Int.sub_add_cancel] at h
  rw [h, dn_up]
theorem led_add (S : Sh) (i j : Int) : ledS (ledS S i) j = ledS S (i + j) := by
  have up : ∀ n : Nat, ledS (ledS S i) n = ledS S (i + n) := fun n => by
    induction n with
    | zero => rw [show i + ((0 : Nat) : Int) = i by omega]; rfl
    | succ n ih => rw [show ((n + 1 : Nat) : Int) = (n : Int) + 1 by omega, led_up1, ih, show i + ((n : Int) + 1) = i + (n : Int) + 1 by omega, led_up1]
  have dn : ∀ n : Nat, ledS (ledS S i) (-(n : Int)) = ledS S (i + -(n : Int)) := fun n => by
    induction n with
    | zero => rw [show i + -((0 : Nat) : Int) = i by omega]; rfl
    | succ n ih => rw [show -((n + 1 : Nat) : Int) = -(n : Int) - 1 by omega, led_dn1, ih, show i + (-(n : Int) - 1) = i + -(n : Int) - 1 by omega, led_dn1]
  by_cases h : 0 ≤ j
  · obtain ⟨n, rfl⟩ := Int.eq_ofNat_of_zero_le h
    exact up n
  · obtain ⟨n, hn⟩ := Int.eq_ofNat_of_zero_le (show 0 ≤ -j by omega)
    rw [show j = -(n : Int) by omega]
    exact dn n
theorem led_zero (S : Sh) : ledS S 0 = S := rfl
theorem ev_up {t r b : Int} : EvB (-t - 2 * r) (-t - r) b ↔ EvB t r b := by
  constructor
  · rintro ⟨⟨k, h1⟩, m, h2⟩
    exact ⟨⟨k - m, by grind⟩, m - 2 * k - 1, by grind⟩
  · rintro ⟨⟨k, h1⟩, m, h2⟩
    exact ⟨⟨-k - 1 - m, by grind⟩, -2 * k - 1 - m, by grind⟩
theorem od_up {t r b : Int} : OdB (-t - 2 * r) (-t - r) b ↔ OdB t r b := by
  constructor
  · rintro ⟨⟨m, h1⟩, k, h2⟩
    exact ⟨⟨m - 2 * k - 1, by grind⟩, k - m, by grind⟩
  · rintro ⟨⟨m, h1⟩, k, h2⟩
    exact ⟨⟨-m - 2 * k - 1, by grind⟩, -m - k - 1, by grind⟩
noncomputable def barS (S : Sh) : V := barV S.a S.b S.m S.c S.d S.m
theorem bar_up (S : Sh) : barS (upS S) = barS S := by
  unfold barS barV
  have e1 : EvB (upS S).a (upS S).b (upS S).m ↔ EvB S.a S.b S.m := ev_up
  have e2 : EvB (upS S).c (upS S).d (upS S).m ↔ EvB S.c S.d S.m := ev_up
  have e3 : OdB (plus.t (upS S).a (upS S).b (upS S).m (upS S).c (upS S).d (upS S).m) (plus.r (upS S).a (upS S).b (upS S).m (upS S).c (upS S).d (upS S).m) (plus.b (upS S).a (upS S).b (upS S).m (upS S).c (upS S).d (upS S).m) ↔ OdB (plus.t S.a S.b S.m S.c S.d S.m) (plus.r S.a S.b S.m S.c S.d S.m) (plus.b S.a S.b S.m S.c S.d S.m) := by
    rw [← od_up (t := plus.t S.a S.b S.m S.c S.d S.m)]
    rw [show plus.t (upS S).a (upS S).b (upS S).m (upS S).c (upS S).d (upS S).m = -plus.t S.a S.b S.m S.c S.d S.m - 2 * plus.r S.a S.b S.m S.c S.d S.m by unfold plus upS; dsimp only; grind, show plus.r (upS S).a (upS S).b (upS S).m (upS S).c (upS S).d (upS S).m = -plus.t S.a S.b S.m S.c S.d S.m - plus.r S.a S.b S.m S.c S.d S.m by unfold plus upS; dsimp only; grind, show plus.b (upS S).a (upS S).b (upS S).m (upS S).c (upS S).d (upS S).m = plus.b S.a S.b S.m S.c S.d S.m from rfl]
  have e4 : OdB (minus.t (upS S).c (upS S).d (upS S).m (upS S).a (upS S).b (upS S).m) (minus.r (upS S).c (upS S).d (upS S).m (upS S).a (upS S).b (upS S).m) (minus.b (upS S).c (upS S).d (upS S).m (upS S).a (upS S).b (upS S).m) ↔ OdB (minus.t S.c S.d S.m S.a S.b S.m) (minus.r S.c S.d S.m S.a S.b S.m) (minus.b S.c S.d S.m S.a S.b S.m) := by
    rw [← od_up (t := minus.t S.c S.d S.m S.a S.b S.m)]
    rw [show minus.t (upS S).c (upS S).d (upS S).m (upS S).a (upS S).b (upS S).m = -minus.t S.c S.d S.m S.a S.b S.m - 2 * minus.r S.c S.d S.m S.a S.b S.m by unfold minus upS; dsimp only; grind, show minus.r (upS S).c (upS S).d (upS S).m (upS S).a (upS S).b (upS S).m = -minus.t S.c S.d S.m S.a S.b S.m - minus.r S.c S.d S.m S.a S.b S.m by unfold minus upS; dsimp only; grind, show minus.b (upS S).c (upS S).d (upS S).m (upS S).a (upS S).b (upS S).m = minus.b S.c S.d S.m S.a S.b S.m from rfl]
  rw [decB_congr e1, decB_congr e2, decB_congr e3, decB_congr e4]
theorem bar_dn (S : Sh) : barS (dnS S) = barS S := by
  have := bar_up (dnS S)
  rw [up_dn] at this
  exact this.symm
/-- a shift that no direction bars, of so many bits -/
structure ShZ (n : Nat) (S : Sh) : Prop where
  p : 0 < S.m
  wm : Bw 40 S.m
  wa : Bw n S.a
  wb : Bw n S.b
  wc : Bw n S.c
  wd : Bw n S.d
  nb : barS S = .non
theorem ShZ.mono {n m : Nat} {S : Sh} (h : ShZ n S) (l : n ≤ m) : ShZ m S := ⟨h.p, h.wm, h.wa.mono l, h.wb.mono l, h.wc.mono l, h.wd.mono l, h.nb⟩
theorem ShZ.up {n : Nat} {S : Sh} (h : ShZ n S) : ShZ (n + 2) (upS S) := by
  obtain ⟨p, wm, wa, wb, wc, wd, nb⟩ := h
  unfold Bw at *
  refine ⟨p, wm, ?_, ?_, ?_, ?_, by rw [bar_up]; exact nb⟩ <;> unfold Bw upS <;> rw [Nat.pow_add] <;> dsimp only <;> omega
theorem ShZ.dn {n : Nat} {S : Sh} (h : ShZ n S) : ShZ (n + 2) (dnS S) := by
  obtain ⟨p, wm, wa, wb, wc, wd, nb⟩ := h
  unfold Bw at *
  refine ⟨p, wm, ?_, ?_, ?_, ?_, by rw [bar_dn]; exact nb⟩ <;> unfold Bw dnS <;> rw [Nat.pow_add] <;> dsimp only <;> omega
theorem ShZ.ups {n : Nat} {S : Sh} (h : ShZ n S) : ∀ k, ShZ (n + 2 * k) (ups k S)
  | 0 => h
  | k + 1 => (ShZ.ups h k).up
theorem ShZ.dns {n : Nat} {S : Sh} (h : ShZ n S) : ∀ k, ShZ (n + 2 * k) (dns k S)
  | 0 => h
  | k + 1 => (ShZ.dns h k).dn
theorem ShZ.led {n : Nat} {S : Sh} (h : ShZ n S) (k : Int) : ShZ (n + 2 * k.natAbs) (ledS S k) := by
  rcases k with k | k
  · exact h.ups k
  · exact h.dns (k + 1)
/-- the factor: so many times -(1 + root) or 1 - root -/
def facS (k : Int) : Sh := ledS ⟨1, 0, 0, 0, 1⟩ k
theorem fac_is (S : Sh) : ∀ k : Int, (ledS S k).a = S.a * (facS k).a + 2 * S.b * (facS k).b ∧ (ledS S k).b = S.a * (facS k).b + S.b * (facS k).a ∧ (ledS S k).c = S.c * (facS k).a + 2 * S.d * (facS k).b ∧ (ledS S k).d = S.c * (facS k).b + S.d * (facS k).a ∧ (ledS S k).m = S.m := by
  have up : ∀ n : Nat, (ups n S).a = S.a * (ups n ⟨1, 0, 0, 0, 1⟩).a + 2 * S.b * (ups n ⟨1, 0, 0, 0, 1⟩).b ∧ (ups n S).b = S.a * (ups n ⟨1, 0, 0, 0, 1⟩).b + S.b * (ups n ⟨1, 0, 0, 0, 1⟩).a ∧ (ups n S).c = S.c * (ups n ⟨1, 0, 0, 0, 1⟩).a + 2 * S.d * (ups n ⟨1, 0, 0, 0, 1⟩).b ∧ (ups n S).d = S.c * (ups n ⟨1, 0, 0, 0, 1⟩).b + S.d * (ups n ⟨1, 0, 0, 0, 1⟩).a ∧ (ups n S).m = S.m := fun n => by
    induction n with
    | zero => refine ⟨?_, ?_, ?_, ?_, rfl⟩ <;> unfold ups <;> dsimp only <;> omega
    | succ n ih =>
      obtain ⟨h1, h2, h3, h4, h5⟩ := ih
      refine ⟨?_, ?_, ?_, ?_, h5⟩ <;> simp only [ups, upS, h1, h2, h3, h4] <;> grind
  have dn : ∀ n : Nat, (dns n S).a = S.a * (dns n ⟨1, 0, 0, 0, 1⟩).a + 2 * S.b * (dns n ⟨1, 0, 0, 0, 1⟩).b ∧ (dns n S).b = S.a * (dns n ⟨1, 0, 0, 0, 1⟩).b + S.b * (dns n ⟨1, 0, 0, 0, 1⟩).a ∧ (dns n S).c = S.c * (dns n ⟨1, 0, 0, 0, 1⟩).a + 2 * S.d * (dns n ⟨1, 0, 0, 0, 1⟩).b ∧ (dns n S).d = S.c * (dns n ⟨1, 0, 0, 0, 1⟩).b + S.d * (dns n ⟨1, 0, 0, 0, 1⟩).a ∧ (dns n S).m = S.m := fun n => by
    induction n with
    | zero => refine ⟨?_, ?_, ?_, ?_, rfl⟩ <;> unfold dns <;> dsimp only <;> omega
    | succ n ih =>
      obtain ⟨h1, h2, h3, h4, h5⟩ := ih
      refine ⟨?_, ?_, ?_, ?_, h5⟩ <;> simp only [dns, dnS, h1, h2, h3, h4] <;> grind
  intro k
  rcases k with k | k
  · exact up k
  · exact dn (k + 1)
/-- the factor on its way -/
def facN (k : Int) (i : Nat) : Sh := if 0 < k then ups i ⟨1, 0, 0, 0, 1⟩ else dns i ⟨1, 0, 0, 0, 1⟩
theorem facN_all (k : Int) : facN k k.natAbs = facS k := by
  unfold facN facS
  rcases k with k | k
  · by_cases h : 0 < Int.ofNat k
    · rw [if_pos h]; rfl
    · rw [if_neg h]
      have : k = 0 := by have h : ¬ (0 : Int) < (k : Int) := h; omega
      subst this
      rfl
  · rw [if_neg (by omega)]; rfl
theorem fac0 (k : Int) : facN k 0 = ⟨1, 0, 0, 0, 1⟩ := by unfold facN; split <;> rfl
theorem fac_step (k : Int) (i : Nat) : times.t (facN k i).a (facN k i).b 1 (if 0 < k then -1 else 1) (-1) 1 = (facN k (i + 1)).a ∧ times.r (facN k i).a (facN k i).b 1 (if 0 < k then -1 else 1) (-1) 1 = (facN k (i + 1)).b := by
  unfold facN times
  dsimp only
  split
  · exact ⟨by simp only [ups, upS]; omega, by simp only [ups, upS]; omega⟩
  · exact ⟨by simp only [dns, dnS]; omega, by simp only [dns, dnS]; omega⟩
theorem facN_bw (k : Int) (i : Nat) : Bw (1 + 2 * i) (facN k i).a ∧ Bw (1 + 2 * i) (facN k i).b := by
  induction i with
  | zero => rw [fac0]; exact ⟨by unfold Bw; decide, by unfold Bw; decide⟩
  | succ i ih =>
    obtain ⟨h1, h2⟩ := ih
    unfold facN at *
    split at h1
    · rename_i hk
      rw [if_pos hk] at *
      unfold Bw at *
      rw [show 1 + 2 * (i + 1) = (1 + 2 * i) + 2 by omega, Nat.pow_add]
      simp only [ups, upS]
      exact ⟨by omega, by omega⟩
    · rename_i hk
      rw [if_neg hk] at *
      unfold Bw at *
      rw [show 1 + 2 * (i + 1) = (1 + 2 * i) + 2 by omega, Nat.pow_add]
      simp only [dns, dnS]
      exact ⟨by omega, by omega⟩
theorem facS_bw {k : Int} (h0 : -40 ≤ k) (h1 : k ≤ 40) : Bw 81 (facS k).a ∧ Bw 81 (facS k).b := by
  have h := facN_bw k k.natAbs
  rw [facN_all] at h
  exact ⟨h.1.mono (by omega), h.2.mono (by omega)⟩
/-- a floor of a shift -/
def FlS (Z : Zs) (H : Hp) (v : V) (S : Sh) : Prop := FloorAt Z H v (lowT S.a S.b S.m) (lowR S.a S.b S.m) (lowB S.a S.b S.m) (lowT S.c S.d S.m) (lowR S.c S.d S.m) (lowB S.c S.d S.m)
theorem FlS.kps {Z : Zs} {H H' : Hp} {v : V} {S : Sh} (h : FlS Z H v S) (s : Kps H H') : FlS Z H' v S := FloorAt.kps h s
theorem FlS.same {Z : Zs} {H H' : Hp} {v : V} {S : Sh} (h : FlS Z H v S) (s : Same H H') : FlS Z H' v S := FloorAt.kps h (Kps.same s)
/-- what is no floor: plain things, Roots, Pieces -/
def NoF (Z : Zs) (H : Hp) (v : V) : Prop := Th Z.c_Root H v ∨ ∃ a dx fs, v = .ref a ∧ H a = some (.ins Z.c_Piece dx fs)
theorem NoF.same {Z : Zs} {H H' : Hp} {v : V} (h : NoF Z H v) (s : Same H H') : NoF Z H' v := by
  rcases h with h | ⟨a, dx, fs, e, h⟩
  · exact .inl (h.same s)
  · exact .inr ⟨a, dx, fs, e, s _ _ h⟩
theorem NoF.ty {Z : Zs} {mg : Str → Option Value} {H : Hp} {v : V} (h : NoF Z H v) (T : Txt Z mg) : ∃ t, TyX Z.K H v t ∧ PySem.W.kitOne Z.K t (.ref Z.c_Floor) = some false := by
  have go : ∀ {v : V}, Th Z.c_Floor H v → isC Z.c_Floor H v = false → ∃ t, TyX Z.K H v t ∧ PySem.W.kitOne Z.K t (.ref Z.c_Floor) = some false := fun th nc => by
    obtain ⟨ty, hty, _, _, k3, _⟩ := th.ty T.kf_Floor
    rw [nc] at k3
    exact ⟨ty, hty, k3⟩
  rcases h with h | ⟨a, dx, fs, rfl, e⟩
  · cases h with
    | non => exact go .non rfl
    | bl b => exact go (.bl b) rfl
    | int i => exact go (.int i) rfl
    | str s => exact go (.str s) rfl
    | lst a xs e => exact go (.lst a xs e) (by show (match H a with | some (.ins C _ _) => decide (C = Z.c_Floor) | _ => false) = false; rw [e])
    | tup a xs e => exact go (.tup a xs e) (by show (match H a with | some (.ins C _ _) => decide (C = Z.c_Floor) | _ => false) = false; rw [e])
    | dK a xs e => exact go (.dK a xs e) (by show (match H a with | some (.ins C _ _) => decide (C = Z.c_Floor) | _ => false) = false; rw [e])
    | root a dx t r b e => exact ⟨_, .base (.ins e T.ki.ty T.ki.ha T.ki.hn T.ki.htk T.ki.hm), T.kc_Root_Floor⟩
  · exact ⟨_, .base (.ins e T.kf_Piece.ty T.kf_Piece.ha T.kf_Piece.hn T.kf_Piece.htk T.kf_Piece.hm), T.kc_Piece_Floor⟩
theorem k_floorS {w : Addr} {x y : V} {S : Sh} {H : Hp} {Q : VK} {E : XK} (z : ShZ 400 S) (hw : H w = some (.tup [x, y])) (hx : NumAt Z.c_Root H x (lowT S.a S.b S.m) (lowR S.a S.b S.m) (lowB S.a S.b S.m)) (hy : NumAt Z.c_Root H y (lowT S.c S.d S.m) (lowR S.c S.d S.m) (lowB S.c S.d S.m))
    (ok : ∀ v H', Same H H' → FlS Z H' v S → Q v H') : MkC Z.c_Floor (sp_Floor_init Z) E [.ref w] H Q := by
  obtain ⟨p, wm, wa, wb, wc, wd, nb⟩ := z
  have n1 : S.m ≠ 0 := by omega
  obtain ⟨a1, a2, a3⟩ := low_bw n1 wa wb (wm.mono (by decide))
  obtain ⟨b1, b2, b3⟩ := low_bw n1 wc wd (wm.mono (by decide))
  exact k_mkFloor hw hx hy (Sm.low n1 (wa.mono (by decide)) (wb.mono (by decide)) (wm.mono (by decide))) (Sm.low n1 (wc.mono (by decide)) (wd.mono (by decide)) (wm.mono (by decide))) a3 b3 a1 a2 b1 b2 (by rw [bar_low n1 n1]; exact nb) ok
abbrev s_check_floor : Stmt := top 47
theorem sc_check_floor : FnScope ["floor"] ["floor"] (defScope s_check_floor) := ⟨rfl, rfl, rfl, by decide +kernel, rfl, by decide +kernel, by decide +kernel⟩

def sp_check_floor (Z : Zs) : Sp := fun vs H Q E =>
  ∃ v, vs = [v] ∧ (NoF Z H v ∧ ErX Z.c_BadFloor "floor" v H E ∨ ∃ S, FlS Z H v S ∧ Q .non H)
theorem ok_check_floor (T : Txt Z mg) (h_BadFloor : HasX P w Z.K mg base "BadFloor" Z.c_BadFloor 1 ["self", "floor"] (sp_BadFloor_init Z)) (D : AtF Z.K mg "check_floor" "check_floor" s_check_floor ["floor"]) : Has P w Z.K mg base "check_floor" 3 ["floor"] (sp_check_floor Z) := by
  refine D.ok sc_check_floor (fun vs H Q E h => ?_) (fun cdv A outer s H vs Q E hr h => ?_)
  · obtain ⟨v, rfl, _⟩ := h
    rfl
  · refine ⟨_, (pss_one (ps_if (pt_not (pt_val (pe_callB call_isi rfl T.n_isinstance (by decide +kernel) (pa_cons (pv 0) (pa_cons (pe_glob (v := .ref Z.c_Floor) rfl T.g_Floor rfl) pa_nil))))) (pss_one (ps_raise rfl (takes_of rfl rfl rfl rfl) (pm_h T.x_BadFloor h_BadFloor hr (pa_cons (pv 0) pa_nil)))) pss_nil)), ?_⟩
    try simp only [cxOf]
    obtain ⟨v, rfl, ⟨n, er⟩ | ⟨S, hf, q⟩⟩ := h
    · obtain ⟨ty, hty, k⟩ := n.ty T
      walk_at "W"
      refine w_isiC hty k ?_
      walk_at "W"
      exact k_mkO fun d H2 hd s4 e4 => er d H2 hd s4 e4
    obtain ⟨a, dx, u, g, vx, vy, B, X1, X2, Y1, Y2, rfl, e1, -⟩ := hf
    walk_at "W"
    refine w_isiC (.base (.ins e1 T.kf_Floor.ty T.kf_Floor.ha T.kf_Floor.hn T.kf_Floor.htk T.kf_Floor.hm)) T.kf_Floor.cc ?_
    walk_at "W"
    exact q
abbrev s_check_many : Stmt := top 73
theorem sc_check_many : FnScope ["many"] ["many"] (defScope s_check_many) := ⟨rfl, rfl, rfl, by decide +kernel, rfl, by decide +kernel, by decide +kernel⟩

def sp_check_many (Z : Zs) : Sp := fun vs H Q E =>
  ∃ s : V, vs = [s] ∧ ThI Z H s ∧ ((isI s = false ∨ ∃ i, s = .int i ∧ ¬ (-40 ≤ i ∧ i ≤ 40)) ∧ ErX Z.c_BadSize "size" s H E ∨ ∃ i, s = .int i ∧ -40 ≤ i ∧ i ≤ 40 ∧ Q .non H)
theorem ok_check_many (T : Txt Z mg) (h_is_integral : Has P w Z.K mg base "is_integral" 1 ["thing"] (sp_is_integral Z)) (h_BadSize : HasX P w Z.K mg base "BadSize" Z.c_BadSize 1 ["self", "size"] (sp_BadSize_init Z)) (D : AtF Z.K mg "check_many" "check_many" s_check_many ["many"]) : Has P w Z.K mg base "check_many" 3 ["many"] (sp_check_many Z) := by
  refine D.ok sc_check_many (fun vs H Q E h => ?_) (fun cdv A outer s H vs Q E hr h => ?_)
  · obtain ⟨s, rfl, _⟩ := h
    rfl
  · refine ⟨_, (pss_one (ps_if (PW.pt (pw_or (pt_not (pt_val (pe_h (E := ED E) h_is_integral hr (paW (takes_of rfl rfl rfl rfl)) (pa_cons (pv 0) pa_nil)))) (pw_or1 (pt_not (pt_chain op_le op_le (pe_un un_neg (C8.pe_gc (v := .int 40) rfl T.g_MOST_LED)) (pv 0) (C8.pe_gc (v := .int 40) rfl T.g_MOST_LED)))))) (pss_one (ps_raise rfl (takes_of rfl rfl rfl rfl) (pm_h T.x_BadSize h_BadSize hr (pa_cons (pv 0) pa_nil)))) pss_nil)), ?_⟩
    try simp only [cxOf]
    obtain ⟨s, rfl, th, ⟨hs, er⟩ | ⟨i, rfl, h0, h1, q⟩⟩ := h
    · walk_at "W"
      refine ⟨s, rfl, th, ?_⟩
      rcases hs with hs | ⟨i, rfl, hi⟩
      · rw [hs]
        walk_at "W"
        exact k_mkO fun d H2 hd s4 e4 => er d H2 hd s4 e4
      · rw [show isI (.int i) = true from rfl]
        walk_at "W"
        by_cases h1 : -40 ≤ i
        · rw [decide_eq_true h1]
          walk_at "W"
          rw [decide_eq_false (show ¬ i ≤ 40 by omega)]
          walk_at "W"
          exact k_mkO fun d H2 hd s4 e4 => er d H2 hd s4 e4
        · rw [decide_eq_false h1]
          walk_at "W"
          exact k_mkO fun d H2 hd s4 e4 => er d H2 hd s4 e4
    walk_at "W"
    refine ⟨_, rfl, th, ?_⟩
    rw [show isI (.int i) = true from rfl]
    walk_at "W"
    rw [decide_eq_true h0]
    walk_at "W"
    rw [decide_eq_true h1]
    walk_at "W"
    exact q
abbrev s_factor : Stmt := top 74
theorem sc_factor : FnScope ["many", "by", "times", "_"] ["many"] (defScope s_factor) := ⟨rfl, rfl, rfl, by decide +kernel, rfl, by decide +kernel, by decide +kernel⟩

def sp_factor (Z : Zs) : Sp := fun vs H Q E =>
  ∃ k : Int, vs = [.int k] ∧ -40 ≤ k ∧ k ≤ 40 ∧ ∀ v H', Same H H' → LowAt Z.c_Root H' v (facS k).a (facS k).b 1 → Q v H'
theorem ok_factor (T : Txt Z mg) (h_Root : HasC P w Z.K mg base "Root" Z.c_Root 3 ["self", "top", "root", "bottom"] (sp_Root_init Z)) (h_Root_mul : HasM P w Z.K mg base Z.c_Root "__mul__" 6 ["self", "other"] (sp_Root_mul Z)) (h_Root_rmul : HasM P w Z.K mg base Z.c_Root "__rmul__" 7 ["self", "other"] (sp_Root_rmul Z)) (D : AtF Z.K mg "factor" "factor" s_factor ["many"]) : Has P w Z.K mg base "factor" 8 ["many"] (sp_factor Z) := by
  refine D.ok sc_factor (fun vs H Q E h => ?_) (fun cdv A outer s H vs Q E hr h => ?_)
  · obtain ⟨k, rfl, _⟩ := h
    rfl
  · refine ⟨_, (C8.pss_cut (ps_set (i := 1) sc_factor.nd rfl (Or.inl rfl) (pe_ifExp (pt_cmpR op_gt (pv 0) pe_int (nomark _)) (pe_hc (E := ED E) h_Root hr (paW (takes_of rfl rfl rfl rfl)) (pa_cons (pe_un un_neg pe_int) (pa_cons (pe_un un_neg pe_int) (pa_cons pe_int pa_nil)))) (pe_hc (E := ED E) h_Root hr (paW (takes_of rfl rfl rfl rfl)) (pa_cons pe_int (pa_cons (pe_un un_neg pe_int) (pa_cons pe_int pa_nil))))))
      (pss_cons (ps_set (i := 2) sc_factor.nd rfl (Or.inl rfl) (pe_hc (E := ED E) h_Root hr (paW (takes_of rfl rfl rfl rfl)) (pa_cons pe_int (pa_cons pe_int (pa_cons pe_int pa_nil)))))
      (pss_cons (ps_for (passes_of rfl) rfl (pi_range1 rfl T.n_range (pa_cons (pe_callB cn_abs rfl T.n_abs (by decide +kernel) (pa_cons (pv 0) pa_nil)) pa_nil)) (pg_name (i := 3) sc_factor.nd rfl (Or.inl rfl)) (pss_one (ps_set (i := 2) sc_factor.nd rfl (Or.inl rfl) (pe_op (op_mulB T.ow h_Root_mul h_Root_rmul hr passL) (pv 2) (pv 1)))))
      (pss_one (ps_ret (pv 2)))))), ?_⟩
    try simp only [cxOf]
    obtain ⟨k, rfl, k0, k1, q⟩ := h
    walk_at "W"
    refine w_cut (fun σ' H' => Same H H' ∧ ∃ bv, σ' = [some (.int k), some bv, none, none] ∧ LowAt Z.c_Root H' bv (if 0 < k then -1 else 1) (-1) 1) ?_ ?_
    · walk_at "W"
      by_cases hk : 0 < k
      · rw [decide_eq_true hk, if_pos hk]
        walk_at "W"
        refine k_mkRootI (by decide) (Bw.one.bd (by decide)) fun v H1 s1 h1 => ?_
        walk_at "W"
        exact ⟨s1, v, rfl, h1⟩
      · rw [decide_eq_false hk, if_neg hk]
        walk_at "W"
        refine k_mkRootI (by decide) (Bw.one.bd (by decide)) fun v H1 s1 h1 => ?_
        walk_at "W"
        exact ⟨s1, v, rfl, h1⟩
    rintro σ1 H1 ⟨s1, bv, rfl, hb⟩
    walk_at "W"
    refine k_mkRootI (by decide) (Bw.one.bd (by decide)) fun tv H2 s2 h2 => ?_
    walk_at "W"
    refine k_forR (fun i σ' H' => (∃ tv y, σ' = [some (.int k), some bv, some tv, y] ∧ LowAt Z.c_Root H' tv (facN k i).a (facN k i).b 1) ∧ Same H H' ∧ LowAt Z.c_Root H' bv (if 0 < k then -1 else 1) (-1) 1) (by omega) (by omega) ⟨⟨tv, _, rfl, by rw [fac0]; exact h2⟩, s1.trans s2, hb.same s2⟩ ?_ ?_
    · rintro i σ' H3 hi ⟨⟨tv', y, rfl, h3⟩, s3, hb3⟩
      have i40 : i < 40 := by omega
      obtain ⟨w1, w2⟩ := facN_bw k i
      have sm1 := Sm.low (t := (facN k i).a) (r := (facN k i).b) (b := 1) (by decide) (w1.mono (by omega)) (w2.mono (by omega)) (Bw.one.mono (by decide))
      have sm2 := Sm.low (t := if 0 < k then -1 else 1) (r := -1) (b := 1) (by decide) (by split <;> (unfold Bw; decide)) (by unfold Bw; decide) (Bw.one.mono (by decide))
      walk_at "W"
      refine k_ownB rfl rfl (.inl h3) (.inl hb3) (.inl h3) sm1 sm2 fun w1 H4 s4 g1 => ?_
      have g1 := low_hom hom_times (by decide) (by decide) (Int.mul_ne_zero sm1.hn sm2.hn) g1
      rw [(fac_step k i).1, (fac_step k i).2] at g1
      walk_at "W"
      exact ⟨⟨w1, _, rfl, g1⟩, s3.trans s4, hb3.same s4⟩
    rintro σ' H3 ⟨⟨tv', y, rfl, h3⟩, s3, hb3⟩
    walk_at "W"
    rw [Int.toNat_natCast, facN_all] at h3
    exact q _ H3 s3 h3
abbrev s_scaled : Stmt := top 26
theorem sc_scaled : FnScope ["number", "point"] ["number", "point"] (defScope s_scaled) := ⟨rfl, rfl, rfl, by decide +kernel, rfl, by decide +kernel, by decide +kernel⟩

def sp_scaled (Z : Zs) : Sp := fun vs H Q E =>
  ∃ (v : V) (p : Addr) (x y : V) (k : Int) (S : Sh), vs = [v, .ref p] ∧ LowAt Z.c_Root H v (facS k).a (facS k).b 1 ∧ -40 ≤ k ∧ k ≤ 40 ∧ H p = some (.tup [x, y]) ∧ LowAt Z.c_Root H x S.a S.b S.m ∧ LowAt Z.c_Root H y S.c S.d S.m ∧ ShZ 240 S ∧ ∀ u x y H', Same H H' → H' u = some (.tup [x, y]) → LowAt Z.c_Root H' x (ledS S k).a (ledS S k).b (ledS S k).m → LowAt Z.c_Root H' y (ledS S k).c (ledS S k).d (ledS S k).m → Q (.ref u) H'
theorem ok_scaled (T : Txt Z mg) (h_as_root : Has P w Z.K mg base "as_root" 5 ["number"] (sp_as_root Z)) (h_Root_mul : HasM P w Z.K mg base Z.c_Root "__mul__" 6 ["self", "other"] (sp_Root_mul Z)) (h_Root_rmul : HasM P w Z.K mg base Z.c_Root "__rmul__" 7 ["self", "other"] (sp_Root_rmul Z)) (D : AtF Z.K mg "scaled" "scaled" s_scaled ["number", "point"]) : Has P w Z.K mg base "scaled" 8 ["number", "point"] (sp_scaled Z) := by
  refine D.ok sc_scaled (fun vs H Q E h => ?_) (fun cdv A outer s H vs Q E hr h => ?_)
  · obtain ⟨v, p, x, y, k, S, rfl, _⟩ := h
    rfl
  · refine ⟨_, (pss_one (ps_ret (pe_tup (pa_cons (pe_op (op_mulB T.ow h_Root_mul h_Root_rmul hr passL) (pe_h (E := ED E) h_as_root hr (paW (takes_of rfl rfl rfl rfl)) (pa_cons (pe_ix ix_seq (pv 1) pe_int (fun _ _ => rfl)) pa_nil)) (pv 0)) (pa_cons (pe_op (op_mulB T.ow h_Root_mul h_Root_rmul hr passL) (pe_h (E := ED E) h_as_root hr (paW (takes_of rfl rfl rfl rfl)) (pa_cons (pe_ix ix_seq (pv 1) pe_int (fun _ _ => rfl)) pa_nil)) (pv 0)) pa_nil))))), ?_⟩
    try simp only [cxOf]
    obtain ⟨v, p, x, y, k, S, rfl, hv, k0, k1, hp, hx, hy, sz, q⟩ := h
    obtain ⟨f1, f2⟩ := facS_bw k0 k1
    obtain ⟨i1, i2, i3, i4, i5⟩ := fac_is S k
    have n1 : S.m ≠ 0 := by have := sz.p; omega
    have sm1 := Sm.low (t := S.a) (r := S.b) n1 (sz.wa.mono (by decide)) (sz.wb.mono (by decide)) (sz.wm.mono (by decide))
    have sm2 := Sm.low (t := S.c) (r := S.d) n1 (sz.wc.mono (by decide)) (sz.wd.mono (by decide)) (sz.wm.mono (by decide))
    have smf := Sm.low (t := (facS k).a) (r := (facS k).b) (b := 1) (by decide) (f1.mono (by decide)) (f2.mono (by decide)) (Bw.one.mono (by decide))
    walk_at "W"
    refine ⟨x, _, _, _, rfl, .inl hx, fun v1 H1 s1 h1 => ?_⟩
    have hv1 := hv.same s1
    walk_at "W"
    refine k_ownB rfl rfl (.inl h1) (.inl hv1) (.inl h1) sm1 smf fun w1 H2 s2 g1 => ?_
    have g1 := low_hom hom_times n1 (by decide) (Int.mul_ne_zero sm1.hn smf.hn) g1
    walk_at "W"
    refine w_ixT ((s1.trans s2) _ _ hp) rfl ?_
    refine ⟨y, _, _, _, rfl, .inl (hy.same (s1.trans s2)), fun v3 H3 s3 h3 => ?_⟩
    walk_at "W"
    refine k_ownB rfl rfl (.inl h3) (.inl ((hv1.same s2).same s3)) (.inl h3) sm2 smf fun w2 H4 s4 g2 => ?_
    have g2 := low_hom hom_times n1 (by decide) (Int.mul_ne_zero sm2.hn smf.hn) g2
    walk_at "W"
    refine k_tup rfl fun u H5 hu s5 e5 => q u w1 w2 H5 (s1.trans (s2.trans (s3.trans (s4.trans s5)))) e5 ?_ ?_
    · rw [i1, i2, i5, show S.m = S.m * 1 by omega]
      exact ((LowAt.same g1 s3).same s4).same s5
    · rw [i3, i4, i5, show S.m = S.m * 1 by omega]
      exact LowAt.same g2 s5
abbrev s_led : Stmt := top 75
theorem sc_led : FnScope ["floor", "many"] ["floor", "many"] (defScope s_led) := ⟨rfl, rfl, rfl, by decide +kernel, rfl, by decide +kernel, by decide +kernel⟩

def sp_led (Z : Zs) : Sp := fun vs H Q E =>
  ∃ (v : V) (k : Int), vs = [v, .int k] ∧ -40 ≤ k ∧ k ≤ 40 ∧ (NoF Z H v ∧ ErX Z.c_BadFloor "floor" v H E ∨ ∃ S, FlS Z H v S ∧ ShZ 240 S ∧ ∀ u H', Same H H' → FlS Z H' u (ledS S k) → Q u H')
theorem ok_led (T : Txt Z mg) (h_Floor : HasC P w Z.K mg base "Floor" Z.c_Floor 9 ["self", "shift"] (sp_Floor_init Z)) (h_scaled : Has P w Z.K mg base "scaled" 8 ["number", "point"] (sp_scaled Z)) (h_factor : Has P w Z.K mg base "factor" 8 ["many"] (sp_factor Z)) (h_check_floor : Has P w Z.K mg base "check_floor" 3 ["floor"] (sp_check_floor Z)) (D : AtF Z.K mg "led" "led" s_led ["floor", "many"]) : Has P w Z.K mg base "led" 11 ["floor", "many"] (sp_led Z) := by
  refine D.ok sc_led (fun vs H Q E h => ?_) (fun cdv A outer s H vs Q E hr h => ?_)
  · obtain ⟨v, k, rfl, _⟩ := h
    rfl
  · refine ⟨_, (pss_cons (ps_expr (pe_h (E := ED E) h_check_floor hr (paW (takes_of rfl rfl rfl rfl)) (pa_cons (pv 0) pa_nil)))
      (pss_one (ps_ret (pe_hc (E := ED E) h_Floor hr (paW (takes_of rfl rfl rfl rfl)) (pa_cons (pe_h (E := ED E) h_scaled hr (paW (takes_of rfl rfl rfl rfl)) (pa_cons (pe_h (E := ED E) h_factor hr (paW (takes_of rfl rfl rfl rfl)) (pa_cons (pv 1) pa_nil)) (pa_cons (pe_fld (pv 0) rfl) pa_nil))) pa_nil))))), ?_⟩
    try simp only [cxOf]
    obtain ⟨v, k, rfl, k0, k1, ⟨n, er⟩ | ⟨S, hf, sz, q⟩⟩ := h
    · walk_at "W"
      exact ⟨v, rfl, .inl ⟨n, er⟩⟩
    walk_at "W"
    refine ⟨v, rfl, .inr ⟨S, hf, ?_⟩⟩
    walk_at "W"
    refine ⟨k, rfl, k0, k1, fun fv H1 s1 hfv => ?_⟩
    have hf1 := hf.same s1
    obtain ⟨a, dx, u, g, vx, vy, B, X1, X2, Y1, Y2, rfl, e1, e2, h1, h2, -⟩ := hf1
    walk_at "W"
    refine w_fld e1 T.c_Floor T.nf_Floor_shift (ff_shift _ _) ?_
    walk_at "W"
    refine ⟨fv, u, vx, vy, k, S, rfl, hfv, k0, k1, e2, h1, h2, sz, fun w x y H2 s2 ew hx hy => ?_⟩
    walk_at "W"
    exact k_floorS ((sz.led k).mono (m := 400) (by omega)) ew (.inl hx) (.inl hy) fun v H3 s3 hv => q v H3 (s1.trans (s2.trans s3)) hv
abbrev s_greater_floor : Stmt := top 76
theorem sc_greater_floor : FnScope ["floor"] ["floor"] (defScope s_greater_floor) := ⟨rfl, rfl, rfl, by decide +kernel, rfl, by decide +kernel, by decide +kernel⟩

def sp_greater_floor (Z : Zs) : Sp := fun vs H Q E =>
  ∃ v : V, vs = [v] ∧ (NoF Z H v ∧ ErX Z.c_BadFloor "floor" v H E ∨ ∃ S, FlS Z H v S ∧ ShZ 240 S ∧ ∀ u H', Same H H' → FlS Z H' u (ledS S 1) → Q u H')
theorem ok_greater_floor (T : Txt Z mg) (h_led : Has P w Z.K mg base "led" 11 ["floor", "many"] (sp_led Z)) (D : AtF Z.K mg "greater_floor" "greater_floor" s_greater_floor ["floor"]) : Has P w Z.K mg base "greater_floor" 12 ["floor"] (sp_greater_floor Z) := by
  refine D.ok sc_greater_floor (fun vs H Q E h => ?_) (fun cdv A outer s H vs Q E hr h => ?_)
  · obtain ⟨v, rfl, _⟩ := h
    rfl
  · refine ⟨_, (pss_one (ps_ret (pe_h (E := ED E) h_led hr (paW (takes_of rfl rfl rfl rfl)) (pa_cons (pv 0) (pa_cons pe_int pa_nil))))), ?_⟩
    try simp only [cxOf]
    obtain ⟨v, rfl, h⟩ := h
    walk_at "W"
    exact ⟨v, 1, rfl, by decide, by decide, h⟩
abbrev s_lesser_floor : Stmt := top 77
theorem sc_lesser_floor : FnScope ["floor"] ["floor"] (defScope s_lesser_floor) := ⟨rfl, rfl, rfl, by decide +kernel, rfl, by decide +kernel, by decide +kernel⟩

def sp_lesser_floor (Z : Zs) : Sp := fun vs H Q E =>
  ∃ v : V, vs = [v] ∧ (NoF Z H v ∧ ErX Z.c_BadFloor "floor" v H E ∨ ∃ S, FlS Z H v S ∧ ShZ 240 S ∧ ∀ u H', Same H H' → FlS Z H' u (ledS S (-1)) → Q u H')
theorem ok_lesser_floor (T : Txt Z mg) (h_led : Has P w Z.K mg base "led" 11 ["floor", "many"] (sp_led Z)) (D : AtF Z.K mg "lesser_floor" "lesser_floor" s_lesser_floor ["floor"]) : Has P w Z.K mg base "lesser_floor" 12 ["floor"] (sp_lesser_floor Z) := by
  refine D.ok sc_lesser_floor (fun vs H Q E h => ?_) (fun cdv A outer s H vs Q E hr h => ?_)
  · obtain ⟨v, rfl, _⟩ := h
    rfl
  · refine ⟨_, (pss_one (ps_ret (pe_h (E := ED E) h_led hr (paW (takes_of rfl rfl rfl rfl)) (pa_cons (pv 0) (pa_cons (pe_un un_neg pe_int) pa_nil))))), ?_⟩
    try simp only [cxOf]
    obtain ⟨v, rfl, h⟩ := h
    walk_at "W"
    exact ⟨v, -1, rfl, by decide, by decide, h⟩
abbrev s_led_up : Stmt := top 78
theorem sc_led_up : FnScope ["floor", "many"] ["floor", "many"] (defScope s_led_up) := ⟨rfl, rfl, rfl, by decide +kernel, rfl, by decide +kernel, by decide +kernel⟩

def sp_led_up (Z : Zs) : Sp := fun vs H Q E =>
  ∃ v k : V, vs = [v, k] ∧ (NoF Z H v ∧ ErX Z.c_BadFloor "floor" v H E ∨ ∃ S, FlS Z H v S ∧ ThI Z H k ∧ ((isI k = false ∨ ∃ i, k = .int i ∧ ¬ (-40 ≤ i ∧ i ≤ 40)) ∧ ErX Z.c_BadSize "size" k H E ∨ ∃ i : Int, k = .int i ∧ -40 ≤ i ∧ i ≤ 40 ∧ ShZ 240 S ∧ ∀ u H', Same H H' → FlS Z H' u (ledS S i) → Q u H'))
theorem ok_led_up (T : Txt Z mg) (h_led : Has P w Z.K mg base "led" 11 ["floor", "many"] (sp_led Z)) (h_check_many : Has P w Z.K mg base "check_many" 3 ["many"] (sp_check_many Z)) (h_check_floor : Has P w Z.K mg base "check_floor" 3 ["floor"] (sp_check_floor Z)) (D : AtF Z.K mg "led_up" "led_up" s_led_up ["floor", "many"]) : Has P w Z.K mg base "led_up" 12 ["floor", "many"] (sp_led_up Z) := by
  refine D.ok sc_led_up (fun vs H Q E h => ?_) (fun cdv A outer s H vs Q E hr h => ?_)
  · obtain ⟨v, k, rfl, _⟩ := h
    rfl
  · refine ⟨_, (pss_cons (ps_expr (pe_h (E := ED E) h_check_floor hr (paW (takes_of rfl rfl rfl rfl)) (pa_cons (pv 0) pa_nil)))
      (pss_cons (ps_expr (pe_h (E := ED E) h_check_many hr (paW (takes_of rfl rfl rfl rfl)) (pa_cons (pv 1) pa_nil)))
      (pss_one (ps_ret (pe_h (E := ED E) h_led hr (paW (takes_of rfl rfl rfl rfl)) (pa_cons (pv 0) (pa_cons (pv 1) pa_nil))))))), ?_⟩
    try simp only [cxOf]
    obtain ⟨v, k, rfl, ⟨n, er⟩ | ⟨S, hf, th, hk⟩⟩ := h
    · walk_at "W"
      exact ⟨v, rfl, .inl ⟨n, er⟩⟩
    walk_at "W"
    refine ⟨v, rfl, .inr ⟨S, hf, ?_⟩⟩
    walk_at "W"
    rcases hk with ⟨bad, er⟩ | ⟨i, rfl, h0, h1, sz, q⟩
    · exact ⟨k, rfl, th, .inl ⟨bad, er⟩⟩
    refine ⟨_, rfl, th, .inr ⟨i, rfl, h0, h1, ?_⟩⟩
    walk_at "W"
    exact ⟨v, i, rfl, h0, h1, .inr ⟨S, hf, sz, q⟩⟩
/-- a shift as the law holds it -/
def SgAt (H : Hp) (v : V) (S : Sh) : Prop := ∃ p px py, v = .ref p ∧ H p = some (.tup [.ref px, .ref py, .int S.m]) ∧ H px = some (.tup [.int S.a, .int S.b]) ∧ H py = some (.tup [.int S.c, .int S.d])
theorem SgAt.kps {H H' : Hp} {v : V} {S : Sh} (h : SgAt H v S) (s : Kps H H') : SgAt H' v S := by
  obtain ⟨p, px, py, e, h1, h2, h3⟩ := h
  exact ⟨p, px, py, e, s.tup h1, s.tup h2, s.tup h3⟩
theorem SgAt.same {H H' : Hp} {v : V} {S : Sh} (h : SgAt H v S) (s : Same H H') : SgAt H' v S := h.kps (Kps.same s)
/-- x, y, z = t -/
theorem k_tupl3 {K : PySem.W.Frag} {T : Addr} {x y z : V} {σ σ' : L2.St} {H : Hp} {i j k : Nat} {N : L2.St → Hp → Prop} {n : Nat} (hT : H T = some (.tup [x, y, z])) (hn : n = 3) (hσ : ((σ.set i (some x)).set j (some y)).set k (some z) = σ') (q : N σ' H) :
    gTup K n (gCons (gName i) (gCons (gName j) (gCons (gName k) gNil))) (.ref T) σ H N := by
  subst hσ
  exact ⟨T, [x, y, z], rfl, SqT.of hT, by rw [hn]; rfl, x, [y, z], rfl, y, [z], rfl, z, [], rfl, rfl, q⟩
theorem half_odd {t b : Int} (pb : 0 < b) (h0 : 2 * t % b = 0) : (∃ k, 2 * t = (2 * k + 1) * b) ↔ 2 * t / b % 2 = 1 := by
  have e : b * (2 * t / b) = 2 * t := by have := Int.mul_ediv_add_emod (2 * t) b; omega
  generalize 2 * t / b = x at *
  constructor
  · rintro ⟨k, h⟩
    have : x = 2 * k + 1 := Int.eq_of_mul_eq_mul_left (show b ≠ 0 by omega) (by rw [e, h, Int.mul_comm])
    omega
  · intro h
    exact ⟨x / 2, by rw [← e, show 2 * (x / 2) + 1 = x by omega, Int.mul_comm]⟩
theorem half_no {t b : Int} (pb : 0 < b) (h0 : ¬ 2 * t % b = 0) : ¬ ∃ k, 2 * t = (2 * k + 1) * b := fun ⟨k, h⟩ => h0 (by rw [h]; exact Int.mul_emod_left ..)
theorem bar_non (S : Sh) (pm : 0 < S.m) : barS S = .non ↔ ¬ EvB S.c S.d S.m ∧ ¬ OdB (S.a + S.c) (S.b + S.d) S.m ∧ ¬ EvB S.a S.b S.m ∧ ¬ OdB (S.c - S.a) (S.d - S.b) S.m := by
  have n : S.m ≠ 0 := by omega
  have e1 : OdB (plus.t S.a S.b S.m S.c S.d S.m) (plus.r S.a S.b S.m S.c S.d S.m) (plus.b S.a S.b S.m S.c S.d S.m) ↔ OdB (S.a + S.c) (S.b + S.d) S.m := by
    rw [← od_scale (t := S.a + S.c) (r := S.b + S.d) (b := S.m) n, Int.add_mul, Int.add_mul]
    exact Iff.rfl
  have e2 : OdB (minus.t S.c S.d S.m S.a S.b S.m) (minus.r S.c S.d S.m S.a S.b S.m) (minus.b S.c S.d S.m S.a S.b S.m) ↔ OdB (S.c - S.a) (S.d - S.b) S.m := by
    rw [← od_scale (t := S.c - S.a) (r := S.d - S.b) (b := S.m) n, Int.sub_mul, Int.sub_mul]
    exact Iff.rfl
  unfold barS barV
  rw [decB_congr e1, decB_congr e2]
  by_cases h1 : EvB S.c S.d S.m
  · rw [decB_t h1, if_pos rfl]
    simp [h1]
  rw [decB_f h1, if_neg (by decide)]
  by_cases h2 : OdB (S.a + S.c) (S.b + S.d) S.m
  · rw [decB_t h2, if_pos rfl]
    simp [h2]
  rw [decB_f h2, if_neg (by decide)]
  by_cases h3 : EvB S.a S.b S.m
  · rw [decB_t h3, if_pos rfl]
    simp [h3]
  rw [decB_f h3, if_neg (by decide)]
  by_cases h4 : OdB (S.c - S.a) (S.d - S.b) S.m
  · rw [decB_t h4, if_pos rfl]
    simp [h4]
  rw [decB_f h4, if_neg (by decide)]
  simp [h1, h2, h3, h4]
/-- a shift moved a hundred-and-first is not barred -/
theorem bar_moved {S : Sh} (pm : 0 < S.m) (m1 : S.m % 101 ≠ 0) : barS ⟨101 * S.a + S.m, 101 * S.b, 101 * S.c + 2 * S.m, 101 * S.d, 101 * S.m⟩ = .non := by
  rw [bar_non _ (by dsimp only; omega)]
  dsimp only
  refine ⟨?_, ?_, ?_, ?_⟩
  · rintro ⟨⟨k, h⟩, -⟩
    have : 4 * S.m = 101 * ((2 * k + 1) * S.m - 2 * S.c) := by grind
    omega
  · rintro ⟨⟨k, h⟩, -⟩
    have : 3 * S.m = 101 * (k * S.m - S.a - S.c) := by grind
    omega
  · rintro ⟨⟨k, h⟩, -⟩
    have : 2 * S.m = 101 * ((2 * k + 1) * S.m - 2 * S.a) := by grind
    omega
  · rintro ⟨⟨k, h⟩, -⟩
    have : S.m = 101 * (k * S.m - S.c + S.a) := by grind
    omega
/-- a shift on its way -/
def ledN (S : Sh) (k : Int) (i : Nat) : Sh := if 0 < k then ups i S else dns i S
theorem ledN_all (S : Sh) (k : Int) : ledN S k k.natAbs = ledS S k := by
  unfold ledN
  rcases k with k | k
  · by_cases h : 0 < Int.ofNat k
    · rw [if_pos h]; rfl
    · rw [if_neg h]
      have : k = 0 := by have h : ¬ (0 : Int) < (k : Int) := h; omega
      subst this
      rfl
  · rw [if_neg (by omega)]; rfl
theorem led0 (S : Sh) (k : Int) : ledN S k 0 = S := by unfold ledN; split <;> rfl
theorem led_stepN (S : Sh) (k : Int) (i : Nat) : ledN S k (i + 1) = if 0 < k then upS (ledN S k i) else dnS (ledN S k i) := by
  unfold ledN
  split <;> rfl
abbrev s__law_is_half : Stmt := top 83
theorem sc__law_is_half : FnScope ["top", "bottom"] ["top", "bottom"] (defScope s__law_is_half) := ⟨rfl, rfl, rfl, by decide +kernel, rfl, by decide +kernel, by decide +kernel⟩

def sp__law_is_half (Z : Zs) : Sp := fun vs H Q E =>
  ∃ t b : Int, vs = [.int t, .int b] ∧ 0 < b ∧ Bw 40 b ∧ Q (.bl (decB (∃ k, 2 * t = (2 * k + 1) * b))) H
theorem ok__law_is_half (T : Txt Z mg)  (D : AtF Z.K mg "_law_is_half" "_law_is_half" s__law_is_half ["top", "bottom"]) : Has P w Z.K mg base "_law_is_half" 1 ["top", "bottom"] (sp__law_is_half Z) := by
  refine D.ok sc__law_is_half (fun vs H Q E h => ?_) (fun cdv A outer s H vs Q E hr h => ?_)
  · obtain ⟨t, b, rfl, _⟩ := h
    rfl
  · refine ⟨_, (pss_one (ps_ret (pe_and (pe_cmpR op_eq (pe_op op_mod (pe_callTy cn_int rfl T.n_int (by decide +kernel) (pa_cons (pe_op op_mulS pe_int (pv 0)) pa_nil)) (pv 1)) pe_int (nomark _)) (pe_one (pe_cmpR op_eq (pe_op op_mod (pe_callTy cn_int rfl T.n_int (by decide +kernel) (pa_cons (pe_op op_fdivW (pe_op op_mulS pe_int (pv 0)) (pv 1)) pa_nil)) pe_int) pe_int (nomark _)))))), ?_⟩
    try simp only [cxOf]
    obtain ⟨t, b, rfl, pb, wb, q⟩ := h
    walk_at "W"
    by_cases h0 : 2 * t % b = 0
    · rw [decide_eq_true (congrArg V.int h0)]
      walk_at "W"
      refine w_I (wide_div pb (wb.bd (by decide)) (by decide) (by decide)) ?_
      walk_at "W"
      by_cases h1 : 2 * t / b % 2 = 1
      · rw [decB_t ((half_odd pb h0).mpr h1)] at q
        rw [decide_eq_true (congrArg V.int h1)]
        exact q
      · rw [decB_f (fun z => h1 ((half_odd pb h0).mp z))] at q
        rw [decide_eq_false (fun z => h1 (by injection z))]
        exact q
    · rw [decide_eq_false (fun z => h0 (by injection z))]
      rw [decB_f (half_no pb h0)] at q
      walk_at "W"
      exact q
abbrev s__law_is_let : Stmt := top 84
theorem sc__law_is_let : FnScope ["shift", "x", "y", "bottom", "a", "b"] ["shift"] (defScope s__law_is_let) := ⟨rfl, rfl, rfl, by decide +kernel, rfl, by decide +kernel, by decide +kernel⟩

def sp__law_is_let (Z : Zs) : Sp := fun vs H Q E =>
  ∃ (v : V) (S : Sh), vs = [v] ∧ SgAt H v S ∧ 0 < S.m ∧ Bw 40 S.m ∧ ∀ H', Same H H' → Q (.bl (decB (barS S = .non))) H'
theorem ok__law_is_let (T : Txt Z mg) (h__law_is_half : Has P w Z.K mg base "_law_is_half" 1 ["top", "bottom"] (sp__law_is_half Z)) (D : AtF Z.K mg "_law_is_let" "_law_is_let" s__law_is_let ["shift"]) : Has P w Z.K mg base "_law_is_let" 2 ["shift"] (sp__law_is_let Z) := by
  refine D.ok sc__law_is_let (fun vs H Q E h => ?_) (fun cdv A outer s H vs Q E hr h => ?_)
  · obtain ⟨v, S, rfl, _⟩ := h
    rfl
  · refine ⟨_, (pss_cons (ps_asg (pv 0) (pg_tup rfl (pgs_cons (pg_name (i := 1) sc__law_is_let.nd rfl (Or.inl rfl)) (pgs_cons (pg_name (i := 2) sc__law_is_let.nd rfl (Or.inl rfl)) (pgs_cons (pg_name (i := 3) sc__law_is_let.nd rfl (Or.inl rfl)) pgs_nil)))))
      (pss_cons (ps_for (passes_of rfl) rfl (pi_list (pe_lst (pa_cons (pv 1) (pa_cons (pv 2) pa_nil)))) (pg_tup rfl (pgs_cons (pg_name (i := 4) sc__law_is_let.nd rfl (Or.inl rfl)) (pgs_cons (pg_name (i := 5) sc__law_is_let.nd rfl (Or.inl rfl)) pgs_nil))) (pss_one (ps_if (PW.pt (pw_and (pt_val (pe_h (E := ED E) h__law_is_half hr (paW (takes_of rfl rfl rfl rfl)) (pa_cons (pv 4) (pa_cons (pv 3) pa_nil)))) (pw_and1 (pt_cmpR op_eq (pe_op op_mod (pe_callTy cn_int rfl T.n_int (by decide +kernel) (pa_cons (pe_op op_mulS pe_int (pv 5)) pa_nil)) (pv 3)) pe_int (nomark _))))) (pss_one (ps_ret pe_bl)) pss_nil)))
      (pss_cons (ps_for (passes_of rfl) rfl (pi_list (pe_lst (pa_cons (pe_tup (pa_cons (pe_op op_add (pe_ix ix_seq (pv 1) pe_int (fun _ _ => rfl)) (pe_ix ix_seq (pv 2) pe_int (fun _ _ => rfl))) (pa_cons (pe_op op_add (pe_ix ix_seq (pv 1) pe_int (fun _ _ => rfl)) (pe_ix ix_seq (pv 2) pe_int (fun _ _ => rfl))) pa_nil))) (pa_cons (pe_tup (pa_cons (pe_op op_sub (pe_ix ix_seq (pv 2) pe_int (fun _ _ => rfl)) (pe_ix ix_seq (pv 1) pe_int (fun _ _ => rfl))) (pa_cons (pe_op op_sub (pe_ix ix_seq (pv 2) pe_int (fun _ _ => rfl)) (pe_ix ix_seq (pv 1) pe_int (fun _ _ => rfl))) pa_nil))) pa_nil)))) (pg_tup rfl (pgs_cons (pg_name (i := 4) sc__law_is_let.nd rfl (Or.inl rfl)) (pgs_cons (pg_name (i := 5) sc__law_is_let.nd rfl (Or.inl rfl)) pgs_nil))) (pss_one (ps_if (PW.pt (pw_and (pt_cmpR op_eq (pe_op op_mod (pe_callTy cn_int rfl T.n_int (by decide +kernel) (pa_cons (pv 4) pa_nil)) (pv 3)) pe_int (nomark _)) (pw_and1 (pt_val (pe_h (E := ED E) h__law_is_half hr (paW (takes_of rfl rfl rfl rfl)) (pa_cons (pv 5) (pa_cons (pv 3) pa_nil))))))) (pss_one (ps_ret pe_bl)) pss_nil)))
      (pss_one (ps_ret pe_bl))))), ?_⟩
    try simp only [cxOf]
    obtain ⟨v, S, rfl, ⟨p, px, py, rfl, e1, e2, e3⟩, pm, wm, q⟩ := h
    have bad : ¬ barS S = .non → ∀ {H'}, Same H H' → Q (.bl false) H' := fun n {H'} s => by have := q H' s; rw [decB_f n] at this; exact this
    walk_at "W"
    refine k_tupl3 e1 rfl rfl ?_
    walk_at "W"
    refine k_lst rfl fun l1 H1 hl1 s1 el1 => ?_
    walk_at "W"
    refine k_forL (xs := [.ref px, .ref py]) (fun i σ' H' => (∃ ya yb, σ' = [some (.ref p), some (.ref px), some (.ref py), some (.int S.m), ya, yb]) ∧ Same H1 H' ∧ (1 ≤ i → ¬ EvB S.a S.b S.m) ∧ (2 ≤ i → ¬ EvB S.c S.d S.m)) (SqL.of el1) ⟨⟨_, _, rfl⟩, Same.refl _, by omega, by omega⟩ (fun i σ' H' h => SqL.of (h.2.1 _ _ el1)) ?_ ?_
    · rintro i x σ' H2 hx ⟨⟨ya, yb, rfl⟩, s2, n1, n2⟩
      obtain ⟨px', a, b, rfl, e, hb, hn⟩ : ∃ px' a b, x = .ref px' ∧ H2 px' = some (.tup [.int a, .int b]) ∧ (EvB a b S.m → ¬ barS S = .non) ∧ (¬ EvB a b S.m → (1 ≤ i + 1 → ¬ EvB S.a S.b S.m) ∧ (2 ≤ i + 1 → ¬ EvB S.c S.d S.m)) := by
        rcases i with _ | _ | i
        · cases hx
          exact ⟨px, S.a, S.b, rfl, s2 _ _ (s1 _ _ e2), fun h z => ((bar_non S pm).mp z).2.2.1 h, fun h => ⟨fun _ => h, by omega⟩⟩
        · cases hx
          exact ⟨py, S.c, S.d, rfl, s2 _ _ (s1 _ _ e3), fun h z => ((bar_non S pm).mp z).1 h, fun h => ⟨fun _ => n1 (by omega), fun _ => h⟩⟩
        · simp at hx
      refine k_tupl2 e rfl rfl ?_
      walk_at "W"
      refine ⟨a, S.m, rfl, pm, wm, ?_⟩
      by_cases h1 : ∃ k, 2 * a = (2 * k + 1) * S.m
      · rw [decB_t h1]
        walk_at "W"
        by_cases h2 : 2 * b % S.m = 0
        · rw [decide_eq_true (congrArg V.int h2)]
          walk_at "W"
          exact bad (hb ⟨h1, (emod_iff (by omega)).mp h2⟩) (s1.trans s2)
        · rw [decide_eq_false (fun z => h2 (by injection z))]
          walk_at "W"
          obtain ⟨g1, g2⟩ := hn (fun z => h2 ((emod_iff (by omega)).mpr z.2))
          exact ⟨⟨_, _, rfl⟩, s2, g1, g2⟩
      · rw [decB_f h1]
        walk_at "W"
        obtain ⟨g1, g2⟩ := hn (fun z => h1 z.1)
        exact ⟨⟨_, _, rfl⟩, s2, g1, g2⟩
    rintro σ' H2 ⟨⟨ya, yb, rfl⟩, s2, n1, n2⟩
    replace n1 := n1 (by simp)
    replace n2 := n2 (by simp)
    have S2 := s1.trans s2
    have e22 := S2 _ _ e2
    have e23 := S2 _ _ e3
    walk_at "W"
    try refine w_ixT e22 rfl ?_
    try refine w_ixT e23 rfl ?_
    walk_at "W"
    refine k_tup rfl fun u3 H3 h3 s3 g3 => ?_
    have e32 := s3 _ _ e22
    have e33 := s3 _ _ e23
    walk_at "W"
    refine k_tup rfl fun u4 H4 h4 s4 g4 => ?_
    walk_at "W"
    refine k_lst rfl fun l5 H5 h5 s5 g5 => ?_
    have g53 := s5 _ _ (s4 _ _ g3)
    have g54 := s5 _ _ g4
    have S5 := S2.trans (s3.trans (s4.trans s5))
    walk_at "W"
    refine k_forL (xs := [.ref u3, .ref u4]) (fun i σ' H' => (∃ ya yb, σ' = [some (.ref p), some (.ref px), some (.ref py), some (.int S.m), ya, yb]) ∧ Same H5 H' ∧ (1 ≤ i → ¬ OdB (S.a + S.c) (S.b + S.d) S.m) ∧ (2 ≤ i → ¬ OdB (S.c - S.a) (S.d - S.b) S.m)) (SqL.of g5) ⟨⟨_, _, rfl⟩, Same.refl _, by omega, by omega⟩ (fun i σ' H' h => SqL.of (h.2.1 _ _ g5)) ?_ ?_
    · rintro i x σ' H6 hx ⟨⟨ya, yb, rfl⟩, s6, m1, m2⟩
      obtain ⟨px', a, b, rfl, e, hb, hn⟩ : ∃ px' a b, x = .ref px' ∧ H6 px' = some (.tup [.int a, .int b]) ∧ (OdB a b S.m → ¬ barS S = .non) ∧ (¬ OdB a b S.m → (1 ≤ i + 1 → ¬ OdB (S.a + S.c) (S.b + S.d) S.m) ∧ (2 ≤ i + 1 → ¬ OdB (S.c - S.a) (S.d - S.b) S.m)) := by
        rcases i with _ | _ | i
        · cases hx
          exact ⟨u3, S.a + S.c, S.b + S.d, rfl, s6 _ _ g53, fun h z => ((bar_non S pm).mp z).2.1 h, fun h => ⟨fun _ => h, by omega⟩⟩
        · cases hx
          exact ⟨u4, S.c - S.a, S.d - S.b, rfl, s6 _ _ g54, fun h z => ((bar_non S pm).mp z).2.2.2 h, fun h => ⟨fun _ => m1 (by omega), fun _ => h⟩⟩
        · simp at hx
      refine k_tupl2 e rfl rfl ?_
      walk_at "W"
      by_cases h2 : a % S.m = 0
      · rw [decide_eq_true (congrArg V.int h2)]
        walk_at "W"
        refine ⟨b, S.m, rfl, pm, wm, ?_⟩
        by_cases h1 : ∃ k, 2 * b = (2 * k + 1) * S.m
        · rw [decB_t h1]
          walk_at "W"
          exact bad (hb ⟨(emod_iff (by omega)).mp h2, h1⟩) (S5.trans s6)
        · rw [decB_f h1]
          walk_at "W"
          obtain ⟨g1, g2⟩ := hn (fun z => h1 z.2)
          exact ⟨⟨_, _, rfl⟩, s6, g1, g2⟩
      · rw [decide_eq_false (fun z => h2 (by injection z))]
        walk_at "W"
        obtain ⟨g1, g2⟩ := hn (fun z => h2 ((emod_iff (by omega)).mpr z.1))
        exact ⟨⟨_, _, rfl⟩, s6, g1, g2⟩
    rintro σ' H6 ⟨⟨ya, yb, rfl⟩, s6, m1, m2⟩
    have := q H6 (S5.trans s6)
    rw [decB_t ((bar_non S pm).mpr ⟨n2, m1 (by simp), n1, m2 (by simp)⟩)] at this
    walk_at "W"
    exact this
abbrev s__law_let : Stmt := top 85
theorem sc__law_let : FnScope ["shift", "x", "y", "bottom"] ["shift"] (defScope s__law_let) := ⟨rfl, rfl, rfl, by decide +kernel, rfl, by decide +kernel, by decide +kernel⟩

def sp__law_let (Z : Zs) : Sp := fun vs H Q E =>
  ∃ (v : V) (S : Sh), vs = [v] ∧ SgAt H v S ∧ 0 < S.m ∧ S.m % 101 ≠ 0 ∧ Bw 22 S.m ∧ Bw 67 S.a ∧ Bw 67 S.b ∧ Bw 67 S.c ∧ Bw 67 S.d ∧ ∀ u S' H', Same H H' → SgAt H' u S' → ShZ 75 S' → Q u H'
theorem ok__law_let (T : Txt Z mg) (h__law_is_let : Has P w Z.K mg base "_law_is_let" 2 ["shift"] (sp__law_is_let Z)) (D : AtF Z.K mg "_law_let" "_law_let" s__law_let ["shift"]) : Has P w Z.K mg base "_law_let" 3 ["shift"] (sp__law_let Z) := by
  refine D.ok sc__law_let (fun vs H Q E h => ?_) (fun cdv A outer s H vs Q E hr h => ?_)
  · obtain ⟨v, S, rfl, _⟩ := h
    rfl
  · refine ⟨_, (pss_cons (ps_if (pt_val (pe_h (E := ED E) h__law_is_let hr (paW (takes_of rfl rfl rfl rfl)) (pa_cons (pv 0) pa_nil))) (pss_one (ps_ret (pv 0))) pss_nil)
      (pss_cons (ps_asg (pv 0) (pg_tup rfl (pgs_cons (pg_name (i := 1) sc__law_let.nd rfl (Or.inl rfl)) (pgs_cons (pg_name (i := 2) sc__law_let.nd rfl (Or.inl rfl)) (pgs_cons (pg_name (i := 3) sc__law_let.nd rfl (Or.inl rfl)) pgs_nil)))))
      (pss_one (ps_ret (pe_tup (pa_cons (pe_tup (pa_cons (pe_op op_add (pe_op op_mulS pe_int (pe_ix ix_seq (pv 1) pe_int (fun _ _ => rfl))) (pv 3)) (pa_cons (pe_op op_mulS pe_int (pe_ix ix_seq (pv 1) pe_int (fun _ _ => rfl))) pa_nil))) (pa_cons (pe_tup (pa_cons (pe_op op_add (pe_op op_mulS pe_int (pe_ix ix_seq (pv 2) pe_int (fun _ _ => rfl))) (pe_op op_mulS pe_int (pv 3))) (pa_cons (pe_op op_mulS pe_int (pe_ix ix_seq (pv 2) pe_int (fun _ _ => rfl))) pa_nil))) (pa_cons (pe_op op_mulS pe_int (pv 3)) pa_nil)))))))), ?_⟩
    try simp only [cxOf]
    obtain ⟨v, S, rfl, hS, pm, m1, wm, wa, wb, wc, wd, q⟩ := h
    walk_at "W"
    refine ⟨v, S, rfl, hS, pm, wm.mono (by decide), fun H1 s1 => ?_⟩
    walk_at "W"
    by_cases nb : barS S = .non
    · rw [decB_t nb]
      walk_at "W"
      exact q v S H1 s1 (hS.same s1) ⟨pm, wm.mono (by decide), wa.mono (by decide), wb.mono (by decide), wc.mono (by decide), wd.mono (by decide), nb⟩
    rw [decB_f nb]
    obtain ⟨p, px, py, rfl, e1, e2, e3⟩ := hS.same s1
    walk_at "W"
    refine k_tupl3 e1 rfl rfl ?_
    walk_at "W"
    try refine w_ixT e2 rfl ?_
    walk_at "W"
    try refine w_ixT e2 rfl ?_
    walk_at "W"
    refine k_tup rfl fun u2 H2 h2 s2 g2 => ?_
    walk_at "W"
    try refine w_ixT (s2 _ _ e3) rfl ?_
    walk_at "W"
    try refine w_ixT (s2 _ _ e3) rfl ?_
    walk_at "W"
    refine k_tup rfl fun u3 H3 h3 s3 g3 => ?_
    walk_at "W"
    have w101 : Bw 7 101 := by unfold Bw; decide
    exact k_tup rfl fun u4 H4 h4 s4 g4 => q _ ⟨101 * S.a + S.m, 101 * S.b, 101 * S.c + 2 * S.m, 101 * S.d, 101 * S.m⟩ H4 (s1.trans (s2.trans (s3.trans s4))) ⟨u4, u2, u3, rfl, g4, s4 _ _ (s3 _ _ g2), s4 _ _ g3⟩
      ⟨by show 0 < 101 * S.m; omega, (w101.mul wm).mono (by decide), ((w101.mul wa).add wm).mono (by decide), (w101.mul wb).mono (by decide), ((w101.mul wc).add (Bw.two.mul wm)).mono (by decide), (w101.mul wd).mono (by decide), bar_moved pm m1⟩
abbrev s__law_shift : Stmt := top 86
theorem sc__law_shift : FnScope ["dice", "kind", "bottom", "most", "parts", "k"] ["dice"] (defScope s__law_shift) := ⟨rfl, rfl, rfl, by decide +kernel, rfl, by decide +kernel, by decide +kernel⟩

def sp__law_shift (Z : Zs) : Sp := fun vs H Q E =>
  ∃ p c, vs = [.ref p] ∧ St5 H p c ∧ ∀ u S H', SameX p H H' → St5 H' p c → SgAt H' u S → ShZ 75 S → Q u H'
theorem ok__law_shift (T : Txt Z mg) (h__law_let : Has P w Z.K mg base "_law_let" 3 ["shift"] (sp__law_let Z)) (h__law_wide : Has P w Z.K mg base "_law_wide" 2 ["dice", "most"] (sp__law_wide Z)) (h__law_draw : Has P w Z.K mg base "_law_draw" 1 ["dice", "many"] (sp__law_draw Z)) (D : AtF Z.K mg "_law_shift" "_law_shift" s__law_shift ["dice"]) : Has P w Z.K mg base "_law_shift" 4 ["dice"] (sp__law_shift Z) := by
  refine D.ok sc__law_shift (fun vs H Q E h => ?_) (fun cdv A outer s H vs Q E hr h => ?_)
  · obtain ⟨p, c, rfl, _⟩ := h
    rfl
  · refine ⟨_, (pss_cons (ps_set (i := 1) sc__law_shift.nd rfl (Or.inl rfl) (pe_h (E := ED E) h__law_draw hr (paW (takes_of rfl rfl rfl rfl)) (pa_cons (pv 0) (pa_cons pe_int pa_nil))))
      (pss_cons (ps_set (i := 2) sc__law_shift.nd rfl (Or.inl rfl) (pe_op op_add pe_int (pe_h (E := ED E) h__law_draw hr (paW (takes_of rfl rfl rfl rfl)) (pa_cons (pv 0) (pa_cons pe_int pa_nil)))))
      (pss_cons (ps_set (i := 3) sc__law_shift.nd rfl (Or.inr rfl) (pe_op op_mulS pe_int (pv 2)))
      (C8.pss_cut (ps_if (pt_cmpR op_eq (pv 1) pe_int (nomark _)) (pss_cons (ps_set (i := 2) sc__law_shift.nd rfl (Or.inl rfl) (pe_op op_add pe_int (pe_h (E := ED E) h__law_draw hr (paW (takes_of rfl rfl rfl rfl)) (pa_cons (pv 0) (pa_cons (pe_op op_pow pe_int pe_int) pa_nil)))))
      (pss_one (ps_set (i := 3) sc__law_shift.nd rfl (Or.inr rfl) (pe_op op_pow pe_int pe_int)))) pss_nil)
      (C8.pss_cut (ps_if (pt_cmpR op_eq (pe_op op_mod (pe_callTy cn_int rfl T.n_int (by decide +kernel) (pa_cons (pv 2) pa_nil)) pe_int) pe_int (nomark _)) (pss_one (ps_aug (i := 2) sc__law_shift.nd rfl (Or.inl rfl) pe_int ip_add)) pss_nil)
      (pss_cons (ps_setLc (i := 4) (own := [("k", 5)]) (g := gName 5) rfl sc__law_shift.nd rfl rfl (sw_true rfl rfl rfl (by decide +kernel)) (pi_range1 rfl T.n_range (pa_cons pe_int pa_nil)) (blkOk_by (N := ["dice", "kind", "bottom", "most", "parts", "k"]) (sc := (defScope s__law_shift)) (by decide +kernel)) (fun _ _ _ _ _ => pg_name (i := 5) sc__law_shift.nd rfl (Or.inl rfl)) (fun _ _ _ _ _ => pts_nil) (fun _ _ _ _ _ => (pe_h (E := fun _ => E0) h__law_wide hr pa0 (pa_cons (pv 0) (pa_cons (pv 3) pa_nil)))))
      (C8.pss_cut (ps_if (pt_cmpR op_eq (pv 1) pe_int (nomark _)) (pss_one (ps_set (i := 4) sc__law_shift.nd rfl (Or.inl rfl) (pe_lst (pa_cons (pe_ix ix_seq (pv 4) pe_int (fun _ _ => rfl)) (pa_cons pe_int (pa_cons (pe_ix ix_seq (pv 4) pe_int (fun _ _ => rfl)) (pa_cons pe_int pa_nil))))))) pss_nil)
      (pss_one (ps_ret (pe_h (E := ED E) h__law_let hr (paW (takes_of rfl rfl rfl rfl)) (pa_cons (pe_tup (pa_cons (pe_tup (pa_cons (pe_ix ix_seq (pv 4) pe_int (fun _ _ => rfl)) (pa_cons (pe_ix ix_seq (pv 4) pe_int (fun _ _ => rfl)) pa_nil))) (pa_cons (pe_tup (pa_cons (pe_ix ix_seq (pv 4) pe_int (fun _ _ => rfl)) (pa_cons (pe_ix ix_seq (pv 4) pe_int (fun _ _ => rfl)) pa_nil))) (pa_cons (pv 2) pa_nil)))) pa_nil))))))))))), ?_⟩
    try simp only [cxOf]
    obtain ⟨p, c, rfl, st, q⟩ := h
    walk_at "W"
    refine ⟨p, c, _, rfl, st, by decide, by unfold Bw; decide, fun kd H1 k0 k1 x1 st1 => ?_⟩
    walk_at "W"
    refine ⟨p, c, _, rfl, st1, by decide, by unfold Bw; decide, fun b H2 b0 b1 x2 st2 => ?_⟩
    walk_at "W"
    have X2 := x1.trans x2
    refine w_cut (fun σ' H' => ∃ m most : Int, σ' = [some (.ref p), some (.int kd), some (.int m), some (.int most), none, none] ∧ SameX p H H' ∧ St5 H' p c ∧ 0 < m ∧ m ≤ 1000000 ∧ 0 ≤ most ∧ most ≤ 100000000000000000000) ?_ ?_
    · walk_at "W"
      by_cases hk : kd = 3
      · rw [decide_eq_true (by rw [hk])]
        walk_at "W"
        refine ⟨p, c, _, rfl, st2, by decide, by unfold Bw; decide, fun b' H3 b0' b1' x3 st3 => ?_⟩
        have b1x : b' < 1000000 := b1'
        walk_at "W"
        exact ⟨_, _, rfl, X2.trans x3, st3, by omega, by omega, by decide, by decide⟩
      · rw [decide_eq_false (fun z => hk (by injection z))]
        walk_at "W"
        exact ⟨_, _, rfl, X2, st2, by omega, by omega, by omega, by omega⟩
    rintro σ3 H3 ⟨m, most, rfl, x3, st3, m0, m1, p0, p1⟩
    walk_at "W"
    refine w_cut (fun σ' H' => ∃ m : Int, σ' = [some (.ref p), some (.int kd), some (.int m), some (.int most), none, none] ∧ H' = H3 ∧ 0 < m ∧ m ≤ 1000001 ∧ m % 101 ≠ 0) ?_ ?_
    · walk_at "W"
      by_cases hk : m % 101 = 0
      · rw [decide_eq_true (congrArg V.int hk)]
        walk_at "W"
        refine ⟨.int m, rfl, ?_⟩
        walk_at "W"
        refine ⟨_, _, rfl, rfl, ?_⟩
        dsimp only
        walk_at "W"
        exact ⟨m + 1, rfl, rfl, by omega, by omega, by omega⟩
      · rw [decide_eq_false (fun z => hk (by injection z))]
        walk_at "W"
        exact ⟨_, rfl, rfl, by omega, by omega, by omega⟩
    rintro σ4 H4 ⟨m', rfl, rfl, m0', m1', mm⟩
    walk_at "W"
    refine k_lcR (fun i D H' => H4 D = none ∧ (∃ ns : List Int, H' D = some (.lst (ns.map V.int)) ∧ ns.length = i ∧ ∀ z ∈ ns, Bw 67 z) ∧ (D ≠ p ∧ D ≠ c) ∧ St5 H' p c ∧ SameX p H4 H') (by decide) (by decide) (fun D hD => ⟨hD, ⟨[], upd_same, rfl, fun _ h => nomatch h⟩, st3.new hD, st3.same (Same.new hD), Same.x (Same.new hD)⟩) ?_ ?_
    · rintro i D H5 hi ⟨hD, ⟨ns, e1, e2, e3⟩, nD, st5, x5⟩
      have i4 : i < 4 := hi
      refine ⟨rfl, w_yes (w_T rfl ?_)⟩
      walk_at "W"
      refine ⟨p, c, _, rfl, st5, p0, by unfold Bw; omega, fun n H6 n0 n1 x6 st6 => ?_⟩
      refine ⟨ns.map V.int, x6 _ _ nD.1 e1, few_lt (by rw [List.length_map]; omega), hD, ⟨ns ++ [n], by rw [List.map_append]; exact upd_same, by rw [List.length_append, e2]; rfl, fun z hz => ?_⟩, nD, st6.other nD, fun b o nb e => ?_⟩
      · rcases List.mem_append.mp hz with h | h
        · exact e3 z h
        · rw [List.mem_singleton.mp h]
          unfold Bw
          omega
      · rw [upd_ne (ne_of_none e hD)]
        exact x6 _ _ nb (x5 _ _ nb e)
    rintro D H5 ⟨hD, ⟨ns, e1, e2, e3⟩, nD, st5, x5⟩
    obtain ⟨za, zb, zc, zd, rfl⟩ := len4 (show ns.length = 4 from e2)
    have wz : Bw 67 za ∧ Bw 67 zb ∧ Bw 67 zc ∧ Bw 67 zd := ⟨e3 _ (by simp), e3 _ (by simp), e3 _ (by simp), e3 _ (by simp)⟩
    have X5 := x3.trans x5
    clear e3
    walk_at "W"
    refine w_cut (fun σ' H' => ∃ (L : Addr) (za zb zc zd : Int), σ' = [some (.ref p), some (.int kd), some (.int m'), some (.int most), some (.ref L), none] ∧ SameX p H H' ∧ St5 H' p c ∧ H' L = some (.lst [.int za, .int zb, .int zc, .int zd]) ∧ Bw 67 za ∧ Bw 67 zb ∧ Bw 67 zc ∧ Bw 67 zd) ?_ ?_
    · walk_at "W"
      by_cases hk : kd = 0
      · rw [decide_eq_true (by rw [hk])]
        walk_at "W"
        try refine w_ixL e1 rfl ?_
        walk_at "W"
        try refine w_ixL e1 rfl ?_
        walk_at "W"
        refine k_lst rfl fun l6 H6 hl6 s6 e6 => ?_
        walk_at "W"
        exact ⟨l6, _, _, _, _, rfl, X5.trans (Same.x s6), st5.same s6, e6, wz.1, by unfold Bw; decide, wz.2.2.1, by unfold Bw; decide⟩
      · rw [decide_eq_false (fun z => hk (by injection z))]
        walk_at "W"
        exact ⟨D, _, _, _, _, rfl, X5, st5, e1, wz.1, wz.2.1, wz.2.2.1, wz.2.2.2⟩
    rintro σ6 H6 ⟨L, a, b2, c2, d, rfl, x6, st6, eL, wa, wb, wc, wd⟩
    walk_at "W"
    try refine w_ixL eL rfl ?_
    walk_at "W"
    try refine w_ixL eL rfl ?_
    walk_at "W"
    refine k_tup rfl fun u7 H7 h7 s7 g7 => ?_
    walk_at "W"
    try refine w_ixL (s7 _ _ eL) rfl ?_
    walk_at "W"
    try refine w_ixL (s7 _ _ eL) rfl ?_
    walk_at "W"
    refine k_tup rfl fun u8 H8 h8 s8 g8 => ?_
    walk_at "W"
    refine k_tup rfl fun u9 H9 h9 s9 g9 => ?_
    have S9 := s7.trans (s8.trans s9)
    exact ⟨.ref u9, ⟨a, b2, c2, d, m'⟩, rfl, ⟨u9, u7, u8, rfl, g9, s9 _ _ (s8 _ _ g7), s9 _ _ g8⟩, m0', mm, by show Bw 22 m'; unfold Bw; omega, wa, wb, wc, wd, fun u S' H' s hS z => q u S' H' (x6.trans (Same.x (S9.trans s))) ((st6.same S9).same s) hS z⟩
abbrev s__law_led : Stmt := top 87
theorem sc__law_led : FnScope ["shift", "many", "x", "y", "bottom", "turn"] ["shift", "many"] (defScope s__law_led) := ⟨rfl, rfl, rfl, by decide +kernel, rfl, by decide +kernel, by decide +kernel⟩

def sp__law_led (Z : Zs) : Sp := fun vs H Q E =>
  ∃ (v : V) (S : Sh) (k : Int), vs = [v, .int k] ∧ SgAt H v S ∧ -400 ≤ k ∧ k ≤ 400 ∧ ∀ u H', Same H H' → SgAt H' u (ledS S k) → Q u H'
theorem ok__law_led (T : Txt Z mg)  (D : AtF Z.K mg "_law_led" "_law_led" s__law_led ["shift", "many"]) : Has P w Z.K mg base "_law_led" 1 ["shift", "many"] (sp__law_led Z) := by
  refine D.ok sc__law_led (fun vs H Q E h => ?_) (fun cdv A outer s H vs Q E hr h => ?_)
  · obtain ⟨v, S, k, rfl, _⟩ := h
    rfl
  · refine ⟨_, (pss_cons (ps_asg (pv 0) (pg_tup rfl (pgs_cons (pg_name (i := 2) sc__law_led.nd rfl (Or.inl rfl)) (pgs_cons (pg_name (i := 3) sc__law_led.nd rfl (Or.inl rfl)) (pgs_cons (pg_name (i := 4) sc__law_led.nd rfl (Or.inl rfl)) pgs_nil)))))
      (pss_cons (ps_for (passes_of rfl) rfl (pi_range1 rfl T.n_range (pa_cons (pe_callB cn_abs rfl T.n_abs (by decide +kernel) (pa_cons (pv 1) pa_nil)) pa_nil)) (pg_name (i := 5) sc__law_led.nd rfl (Or.inl rfl)) (pss_one (ps_if (pt_cmpR op_gt (pv 1) pe_int (nomark _)) (pss_cons (ps_set (i := 2) sc__law_led.nd rfl (Or.inl rfl) (pe_tup (pa_cons (pe_op op_sub (pe_un un_neg (pe_ix ix_seq (pv 2) pe_int (fun _ _ => rfl))) (pe_op op_mulS pe_int (pe_ix ix_seq (pv 2) pe_int (fun _ _ => rfl)))) (pa_cons (pe_op op_sub (pe_un un_neg (pe_ix ix_seq (pv 2) pe_int (fun _ _ => rfl))) (pe_ix ix_seq (pv 2) pe_int (fun _ _ => rfl))) pa_nil))))
      (pss_one (ps_set (i := 3) sc__law_led.nd rfl (Or.inl rfl) (pe_tup (pa_cons (pe_op op_sub (pe_un un_neg (pe_ix ix_seq (pv 3) pe_int (fun _ _ => rfl))) (pe_op op_mulS pe_int (pe_ix ix_seq (pv 3) pe_int (fun _ _ => rfl)))) (pa_cons (pe_op op_sub (pe_un un_neg (pe_ix ix_seq (pv 3) pe_int (fun _ _ => rfl))) (pe_ix ix_seq (pv 3) pe_int (fun _ _ => rfl))) pa_nil)))))) (pss_cons (ps_set (i := 2) sc__law_led.nd rfl (Or.inl rfl) (pe_tup (pa_cons (pe_op op_sub (pe_ix ix_seq (pv 2) pe_int (fun _ _ => rfl)) (pe_op op_mulS pe_int (pe_ix ix_seq (pv 2) pe_int (fun _ _ => rfl)))) (pa_cons (pe_op op_sub (pe_ix ix_seq (pv 2) pe_int (fun _ _ => rfl)) (pe_ix ix_seq (pv 2) pe_int (fun _ _ => rfl))) pa_nil))))
      (pss_one (ps_set (i := 3) sc__law_led.nd rfl (Or.inl rfl) (pe_tup (pa_cons (pe_op op_sub (pe_ix ix_seq (pv 3) pe_int (fun _ _ => rfl)) (pe_op op_mulS pe_int (pe_ix ix_seq (pv 3) pe_int (fun _ _ => rfl)))) (pa_cons (pe_op op_sub (pe_ix ix_seq (pv 3) pe_int (fun _ _ => rfl)) (pe_ix ix_seq (pv 3) pe_int (fun _ _ => rfl))) pa_nil)))))))))
      (pss_one (ps_ret (pe_tup (pa_cons (pv 2) (pa_cons (pv 3) (pa_cons (pv 4) pa_nil)))))))), ?_⟩
    try simp only [cxOf]
    obtain ⟨v, S, k, rfl, ⟨p, px, py, rfl, e1, e2, e3⟩, k0, k1, q⟩ := h
    walk_at "W"
    refine k_tupl3 e1 rfl rfl ?_
    walk_at "W"
    refine k_forR (fun i σ' H' => (∃ px py y, σ' = [some (.ref p), some (.int k), some (.ref px), some (.ref py), some (.int S.m), y] ∧ H' px = some (.tup [.int (ledN S k i).a, .int (ledN S k i).b]) ∧ H' py = some (.tup [.int (ledN S k i).c, .int (ledN S k i).d])) ∧ Same H H') (by omega) (by omega) ⟨⟨px, py, _, rfl, by rw [led0]; exact e2, by rw [led0]; exact e3⟩, Same.refl _⟩ ?_ ?_
    · rintro i σ' H1 hi ⟨⟨px', py', y, rfl, e2', e3'⟩, s1⟩
      have st := led_stepN S k i
      walk_at "W"
      by_cases hk : 0 < k
      · rw [decide_eq_true hk]
        rw [if_pos hk] at st
        walk_at "W"
        refine k_tup rfl fun u2 H2 h2 s2 g2 => ?_
        have e22 := s2 _ _ e2'
        have e23 := s2 _ _ e3'
        walk_at "W"
        refine k_tup rfl fun u3 H3 h3 s3 g3 => ?_
        walk_at "W"
        rw [st]
        exact ⟨⟨u2, u3, _, rfl, s3 _ _ g2, g3⟩, s1.trans (s2.trans s3)⟩
      · rw [decide_eq_false hk]
        rw [if_neg hk] at st
        walk_at "W"
        refine k_tup rfl fun u2 H2 h2 s2 g2 => ?_
        have e22 := s2 _ _ e2'
        have e23 := s2 _ _ e3'
        walk_at "W"
        refine k_tup rfl fun u3 H3 h3 s3 g3 => ?_
        walk_at "W"
        rw [st]
        exact ⟨⟨u2, u3, _, rfl, s3 _ _ g2, g3⟩, s1.trans (s2.trans s3)⟩
    rintro σ' H1 ⟨⟨px', py', y, rfl, e2', e3'⟩, s1⟩
    rw [Int.toNat_natCast, ledN_all] at e2' e3'
    walk_at "W"
    exact k_tup rfl fun u2 H2 h2 s2 g2 => q _ H2 (s1.trans s2) ⟨u2, px', py', rfl, by rw [(fac_is S k).2.2.2.2]; exact g2, s2 _ _ e2', s2 _ _ e3'⟩
abbrev s__law_number : Stmt := top 88
theorem sc__law_number : FnScope ["pair", "bottom", "plain"] ["pair", "bottom", "plain"] (defScope s__law_number) := ⟨rfl, rfl, rfl, by decide +kernel, rfl, by decide +kernel, by decide +kernel⟩

def sp__law_number (Z : Zs) : Sp := fun vs H Q E =>
  ∃ (p : Addr) (t r b : Int) (f : Bool), vs = [.ref p, .int b, .bl f] ∧ H p = some (.tup [.int t, .int r]) ∧ 0 < b ∧ Bw 40 b ∧ ∀ v H', Same H H' → NumAt Z.c_Root H' v (lowT t r b) (lowR t r b) (lowB t r b) → Q v H'
theorem ok__law_number (T : Txt Z mg) (h_Root : HasC P w Z.K mg base "Root" Z.c_Root 3 ["self", "top", "root", "bottom"] (sp_Root_init Z)) (D : AtF Z.K mg "_law_number" "_law_number" s__law_number ["pair", "bottom", "plain"]) : Has P w Z.K mg base "_law_number" 5 ["pair", "bottom", "plain"] (sp__law_number Z) := by
  refine D.ok sc__law_number (fun vs H Q E h => ?_) (fun cdv A outer s H vs Q E hr h => ?_)
  · obtain ⟨p, t, r, b, f, rfl, _⟩ := h
    rfl
  · refine ⟨_, (pss_cons (ps_if (PW.pt (pw_and (pt_truth (pv 2) (by intro _; rfl)) (pw_and (pt_cmpR op_eq (pe_ix ix_seq (pv 0) pe_int (fun _ _ => rfl)) pe_int (nomark _)) (pw_and1 (pt_cmpR op_eq (pe_op op_mod (pe_callTy cn_int rfl T.n_int (by decide +kernel) (pa_cons (pe_ix ix_seq (pv 0) pe_int (fun _ _ => rfl)) pa_nil)) (pv 1)) pe_int (nomark _)))))) (pss_one (ps_ret (pe_op op_fdivW (pe_ix ix_seq (pv 0) pe_int (fun _ _ => rfl)) (pv 1)))) pss_nil)
      (pss_one (ps_ret (pe_hc (E := ED E) h_Root hr (paW (takes_of rfl rfl rfl rfl)) (pa_cons (pe_ix ix_seq (pv 0) pe_int (fun _ _ => rfl)) (pa_cons (pe_ix ix_seq (pv 0) pe_int (fun _ _ => rfl)) (pa_cons (pv 1) pa_nil))))))), ?_⟩
    try simp only [cxOf]
    obtain ⟨p, t, r, b, f, rfl, e, pb, wb, q⟩ := h
    have n : b ≠ 0 := by omega
    have mk : ∀ {E' : XK}, MkC Z.c_Root (sp_Root_init Z) E' [.int t, .int r, .int b] H Q := fun {E'} => k_mkRootI n (wb.bd (by decide)) fun v H1 s1 h1 => q v H1 s1 (.inl h1)
    walk_at "W"
    refine ⟨_, rfl, ?_⟩
    cases f with
    | false =>
      walk_at "W"
      exact mk
    | true =>
      walk_at "W"
      by_cases h1 : r = 0
      · rw [decide_eq_true (congrArg V.int h1)]
        walk_at "W"
        by_cases h2 : t % b = 0
        · rw [decide_eq_true (congrArg V.int h2)]
          walk_at "W"
          refine w_I (wide_div pb (wb.bd (by decide)) (by decide) (by decide)) ?_
          have e' : t = t / b * b := by have := Int.mul_ediv_add_emod t b; rw [Int.mul_comm b] at this; omega
          subst h1
          have h := ((low_is (t := t) (r := 0) n).whole (t / b)).mpr ⟨rfl, e'⟩
          exact q _ H (Same.refl _) (.inr ⟨t / b, rfl, h.2.2, h.1, h.2.1⟩)
        · rw [decide_eq_false (fun z => h2 (by injection z))]
          walk_at "W"
          exact mk
      · rw [decide_eq_false (fun z => h1 (by injection z))]
        walk_at "W"
        exact mk
abbrev s__law_point : Stmt := top 89
theorem sc__law_point : FnScope ["shift", "plain", "x", "y", "bottom"] ["shift", "plain"] (defScope s__law_point) := ⟨rfl, rfl, rfl, by decide +kernel, rfl, by decide +kernel, by decide +kernel⟩

def sp__law_point (Z : Zs) : Sp := fun vs H Q E =>
  ∃ (v : V) (S : Sh) (f : Bool), vs = [v, .bl f] ∧ SgAt H v S ∧ 0 < S.m ∧ Bw 40 S.m ∧ ∀ u x y H', Same H H' → H' u = some (.tup [x, y]) → NumAt Z.c_Root H' x (lowT S.a S.b S.m) (lowR S.a S.b S.m) (lowB S.a S.b S.m) → NumAt Z.c_Root H' y (lowT S.c S.d S.m) (lowR S.c S.d S.m) (lowB S.c S.d S.m) → Q (.ref u) H'
theorem ok__law_point (T : Txt Z mg) (h__law_number : Has P w Z.K mg base "_law_number" 5 ["pair", "bottom", "plain"] (sp__law_number Z)) (D : AtF Z.K mg "_law_point" "_law_point" s__law_point ["shift", "plain"]) : Has P w Z.K mg base "_law_point" 6 ["shift", "plain"] (sp__law_point Z) := by
  refine D.ok sc__law_point (fun vs H Q E h => ?_) (fun cdv A outer s H vs Q E hr h => ?_)
  · obtain ⟨v, S, f, rfl, _⟩ := h
    rfl
  · refine ⟨_, (pss_cons (ps_asg (pv 0) (pg_tup rfl (pgs_cons (pg_name (i := 2) sc__law_point.nd rfl (Or.inl rfl)) (pgs_cons (pg_name (i := 3) sc__law_point.nd rfl (Or.inl rfl)) (pgs_cons (pg_name (i := 4) sc__law_point.nd rfl (Or.inl rfl)) pgs_nil)))))
      (pss_one (ps_ret (pe_tup (pa_cons (pe_h (E := ED E) h__law_number hr (paW (takes_of rfl rfl rfl rfl)) (pa_cons (pv 2) (pa_cons (pv 4) (pa_cons (pv 1) pa_nil)))) (pa_cons (pe_h (E := ED E) h__law_number hr (paW (takes_of rfl rfl rfl rfl)) (pa_cons (pv 3) (pa_cons (pv 4) (pa_cons (pv 1) pa_nil)))) pa_nil)))))), ?_⟩
    try simp only [cxOf]
    obtain ⟨v, S, f, rfl, ⟨p, px, py, rfl, e1, e2, e3⟩, pm, wm, q⟩ := h
    walk_at "W"
    refine k_tupl3 e1 rfl rfl ?_
    walk_at "W"
    refine ⟨px, _, _, _, f, rfl, e2, pm, wm, fun x H1 s1 hx => ?_⟩
    walk_at "W"
    refine ⟨py, _, _, _, f, rfl, s1 _ _ e3, pm, wm, fun y H2 s2 hy => ?_⟩
    walk_at "W"
    exact k_tup rfl fun u H3 hu s3 e4 => q u x y H3 (s1.trans (s2.trans s3)) e4 ((hx.same s2).same s3) (hy.same s3)
abbrev s__law_is_integer : Stmt := top 90
theorem sc__law_is_integer : FnScope ["thing"] ["thing"] (defScope s__law_is_integer) := ⟨rfl, rfl, rfl, by decide +kernel, rfl, by decide +kernel, by decide +kernel⟩

def sp__law_is_integer (Z : Zs) : Sp := fun vs H Q E =>
  ∃ i : Int, vs = [.int i] ∧ Q (.bl true) H
theorem ok__law_is_integer (T : Txt Z mg)  (D : AtF Z.K mg "_law_is_integer" "_law_is_integer" s__law_is_integer ["thing"]) : Has P w Z.K mg base "_law_is_integer" 1 ["thing"] (sp__law_is_integer Z) := by
  refine D.ok sc__law_is_integer (fun vs H Q E h => ?_) (fun cdv A outer s H vs Q E hr h => ?_)
  · obtain ⟨i, rfl, _⟩ := h
    rfl
  · refine ⟨_, (pss_one (ps_ret (pe_and (pe_callB call_isi rfl T.n_isinstance (by decide +kernel) (pa_cons (pv 0) (pa_cons (pe_bltn (v := .ty "int") rfl T.n_int (by decide +kernel) rfl) pa_nil))) (pe_one (pe_not (pe_callB call_isi rfl T.n_isinstance (by decide +kernel) (pa_cons (pv 0) (pa_cons (pe_bltn (v := .ty "bool") rfl T.n_bool (by decide +kernel) rfl) pa_nil)))))))), ?_⟩
    try simp only [cxOf]
    obtain ⟨i, rfl, q⟩ := h
    walk_at "W"
    refine w_isi (b := true) (.base (.int _)) (kit_ty (by decide +kernel)) ?_
    walk_at "W"
    refine w_isi (b := false) (.base (.int _)) (kit_ty (by decide +kernel)) ?_
    walk_at "W"
    exact q
abbrev s__law_is_root : Stmt := top 91
theorem sc__law_is_root : FnScope ["thing", "pair", "bottom", "part"] ["thing", "pair", "bottom"] (defScope s__law_is_root) := ⟨rfl, rfl, rfl, by decide +kernel, rfl, by decide +kernel, by decide +kernel⟩

def sp__law_is_root (Z : Zs) : Sp := fun vs H Q E =>
  ∃ (v : V) (p : Addr) (t r b : Int), vs = [v, .ref p, .int b] ∧ LowAt Z.c_Root H v t r b ∧ 0 < b ∧ Bw 40 b ∧ Bw 400 t ∧ Bw 400 r ∧ H p = some (.tup [.int t, .int r]) ∧ ∀ H', Same H H' → Q (.bl true) H'
theorem ok__law_is_root (T : Txt Z mg) (h__law_is_integer : Has P w Z.K mg base "_law_is_integer" 1 ["thing"] (sp__law_is_integer Z)) (D : AtF Z.K mg "_law_is_root" "_law_is_root" s__law_is_root ["thing", "pair", "bottom"]) : Has P w Z.K mg base "_law_is_root" 2 ["thing", "pair", "bottom"] (sp__law_is_root Z) := by
  refine D.ok sc__law_is_root (fun vs H Q E h => ?_) (fun cdv A outer s H vs Q E hr h => ?_)
  · obtain ⟨v, p, t, r, b, rfl, _⟩ := h
    rfl
  · refine ⟨_, (pss_cons (ps_if (pt_not (pt_val (pe_callB call_isi rfl T.n_isinstance (by decide +kernel) (pa_cons (pv 0) (pa_cons (pe_glob (v := .ref Z.c_Root) rfl T.g_Root rfl) pa_nil))))) (pss_one (ps_ret pe_bl)) pss_nil)
      (pss_cons (ps_for (passes_of rfl) rfl (pi_list (pe_lst (pa_cons (pe_fld (pv 0) rfl) (pa_cons (pe_fld (pv 0) rfl) (pa_cons (pe_fld (pv 0) rfl) pa_nil))))) (pg_name (i := 3) sc__law_is_root.nd rfl (Or.inl rfl)) (pss_one (ps_if (pt_not (pt_val (pe_h (E := ED E) h__law_is_integer hr (paW (takes_of rfl rfl rfl rfl)) (pa_cons (pv 3) pa_nil)))) (pss_one (ps_ret pe_bl)) pss_nil)))
      (pss_cons (ps_if (pt_cmpR op_lt (pe_fld (pv 0) rfl) pe_int (nomark _)) (pss_one (ps_ret pe_bl)) pss_nil)
      (pss_one (ps_ret (pe_and (pe_cmpR op_eq (pe_op op_mulS (pe_fld (pv 0) rfl) (pv 2)) (pe_op op_mulS (pe_ix ix_seq (pv 1) pe_int (fun _ _ => rfl)) (pe_fld (pv 0) rfl)) (nomark _)) (pe_one (pe_cmpR op_eq (pe_op op_mulS (pe_fld (pv 0) rfl) (pv 2)) (pe_op op_mulS (pe_ix ix_seq (pv 1) pe_int (fun _ _ => rfl)) (pe_fld (pv 0) rfl)) (nomark _))))))))), ?_⟩
    try simp only [cxOf]
    obtain ⟨v, p, t, r, b, rfl, ⟨a, dx, rfl, ea⟩, pb, wb, wt, wr, ep, q⟩ := h
    walk_at "W"
    refine w_isiC (.base (.ins ea T.ki.ty T.ki.ha T.ki.hn T.ki.htk T.ki.hm)) T.ki.cc ?_
    have nb : b ≠ 0 := by omega
    obtain ⟨w1, w2, w3⟩ := low_bw nb wt wr (wb.mono (by decide))
    obtain ⟨x, hx, f1, f2, f3⟩ := (low_is (t := t) (r := r) nb).s
    have lp := (low_is (t := t) (r := r) nb).pos
    walk_at "W"
    refine w_fld ea T.c_Root T.nf_top (rf_top _ _ _) ?_
    walk_at "W"
    refine w_fld ea T.c_Root T.nf_root (rf_root _ _ _) ?_
    walk_at "W"
    refine w_fld ea T.c_Root T.nf_bottom (rf_bottom _ _ _) ?_
    walk_at "W"
    refine k_lst rfl fun l1 H1 hl1 s1 el1 => ?_
    have ea1 := s1 _ _ ea
    have ep1 := s1 _ _ ep
    walk_at "W"
    refine k_forL (xs := [.int (lowT t r b), .int (lowR t r b), .int (lowB t r b)]) (fun i σ' H' => (∃ y, σ' = [some (.ref a), some (.ref p), some (.int b), y]) ∧ H' = H1) (SqL.of el1) ⟨⟨_, rfl⟩, rfl⟩ (fun i σ' H' h => by obtain ⟨_, rfl⟩ := h; exact SqL.of el1) ?_ ?_
    · rintro i y σ' H' hy ⟨⟨y', rfl⟩, rfl⟩
      obtain ⟨z, rfl⟩ : ∃ z, y = V.int z := by
        rcases i with _ | _ | _ | i
        · cases hy; exact ⟨_, rfl⟩
        · cases hy; exact ⟨_, rfl⟩
        · cases hy; exact ⟨_, rfl⟩
        · simp at hy
      walk_at "W"
      refine ⟨z, rfl, ?_⟩
      walk_at "W"
      exact ⟨⟨_, rfl⟩, rfl⟩
    rintro σ' H' ⟨⟨y', rfl⟩, rfl⟩
    walk_at "W"
    refine w_fld ea1 T.c_Root T.nf_bottom (rf_bottom _ _ _) ?_
    walk_at "W"
    rw [decide_eq_false (show ¬ lowB t r b < 1 by omega)]
    walk_at "W"
    refine w_fld ea1 T.c_Root T.nf_top (rf_top _ _ _) ?_
    walk_at "W"
    refine w_I (bwm w1 wb (by decide)) ?_
    walk_at "W"
    refine w_fld ea1 T.c_Root T.nf_bottom (rf_bottom _ _ _) ?_
    walk_at "W"
    refine w_I (bwm wt w3 (by decide)) ?_
    walk_at "W"
    have g1 : lowT t r b * b = t * lowB t r b := by
      generalize lowT t r b = x1 at *
      generalize lowB t r b = x3 at *
      subst f1 f3
      grind
    have g2 : lowR t r b * b = r * lowB t r b := by
      generalize lowR t r b = x1 at *
      generalize lowB t r b = x3 at *
      subst f2 f3
      grind
    rw [decide_eq_true (congrArg V.int g1)]
    walk_at "W"
    refine w_fld ea1 T.c_Root T.nf_root (rf_root _ _ _) ?_
    walk_at "W"
    refine w_I (bwm w2 wb (by decide)) ?_
    walk_at "W"
    refine w_fld ea1 T.c_Root T.nf_bottom (rf_bottom _ _ _) ?_
    walk_at "W"
    refine w_I (bwm wr w3 (by decide)) ?_
    walk_at "W"
    rw [decide_eq_true (congrArg V.int g2)]
    exact q _ s1
abbrev s__law_is_floor : Stmt := top 92
theorem sc__law_is_floor : FnScope ["thing", "shift", "x", "y", "bottom"] ["thing", "shift"] (defScope s__law_is_floor) := ⟨rfl, rfl, rfl, by decide +kernel, rfl, by decide +kernel, by decide +kernel⟩

def sp__law_is_floor (Z : Zs) : Sp := fun vs H Q E =>
  ∃ (v w : V) (S : Sh) , vs = [v, w] ∧ FlS Z H v S ∧ SgAt H w S ∧ ShZ 240 S ∧ ∀ H', Same H H' → Q (.bl true) H'
theorem ok__law_is_floor (T : Txt Z mg) (h__law_is_root : Has P w Z.K mg base "_law_is_root" 2 ["thing", "pair", "bottom"] (sp__law_is_root Z)) (D : AtF Z.K mg "_law_is_floor" "_law_is_floor" s__law_is_floor ["thing", "shift"]) : Has P w Z.K mg base "_law_is_floor" 3 ["thing", "shift"] (sp__law_is_floor Z) := by
  refine D.ok sc__law_is_floor (fun vs H Q E h => ?_) (fun cdv A outer s H vs Q E hr h => ?_)
  · obtain ⟨v, w, S, rfl, _⟩ := h
    rfl
  · refine ⟨_, (pss_cons (ps_if (PW.pt (pw_or (pt_not (pt_val (pe_callB call_isi rfl T.n_isinstance (by decide +kernel) (pa_cons (pv 0) (pa_cons (pe_glob (v := .ref Z.c_Floor) rfl T.g_Floor rfl) pa_nil))))) (pw_or (pt_not (pt_val (pe_callB call_isi rfl T.n_isinstance (by decide +kernel) (pa_cons (pe_fld (pv 0) rfl) (pa_cons (pe_bltn (v := .ty "tuple") rfl T.n_tuple (by decide +kernel) rfl) pa_nil))))) (pw_or1 (pt_cmpR op_ne (pe_callB cn_len rfl T.n_len (by decide +kernel) (pa_cons (pe_fld (pv 0) rfl) pa_nil)) pe_int (nomark _)))))) (pss_one (ps_ret pe_bl)) pss_nil)
      (pss_cons (ps_asg (pv 1) (pg_tup rfl (pgs_cons (pg_name (i := 2) sc__law_is_floor.nd rfl (Or.inl rfl)) (pgs_cons (pg_name (i := 3) sc__law_is_floor.nd rfl (Or.inl rfl)) (pgs_cons (pg_name (i := 4) sc__law_is_floor.nd rfl (Or.inl rfl)) pgs_nil)))))
      (pss_one (ps_ret (pe_and (pe_h (E := ED E) h__law_is_root hr (paW (takes_of rfl rfl rfl rfl)) (pa_cons (pe_ix ix_seq (pe_fld (pv 0) rfl) pe_int (fun _ _ => rfl)) (pa_cons (pv 2) (pa_cons (pv 4) pa_nil)))) (pe_one (pe_h (E := ED E) h__law_is_root hr (paW (takes_of rfl rfl rfl rfl)) (pa_cons (pe_ix ix_seq (pe_fld (pv 0) rfl) pe_int (fun _ _ => rfl)) (pa_cons (pv 3) (pa_cons (pv 4) pa_nil)))))))))), ?_⟩
    try simp only [cxOf]
    obtain ⟨v, w, S, rfl, ⟨a, dx, u, g, vx, vy, B, X1, X2, Y1, Y2, rfl, e1, e2, h1, h2, -⟩, ⟨p, px, py, rfl, e3, e4, e5⟩, sz, q⟩ := h
    walk_at "W"
    refine w_isiC (.base (.ins e1 T.kf_Floor.ty T.kf_Floor.ha T.kf_Floor.hn T.kf_Floor.htk T.kf_Floor.hm)) T.kf_Floor.cc ?_
    walk_at "W"
    refine w_fld e1 T.c_Floor T.nf_Floor_shift (ff_shift _ _) ?_
    walk_at "W"
    refine w_isi (b := true) (.base (.tup e2)) (kit_ty (by decide +kernel)) ?_
    walk_at "W"
    refine w_fld e1 T.c_Floor T.nf_Floor_shift (ff_shift _ _) ?_
    walk_at "W"
    refine w_lenT (SqT.of e2) ?_
    walk_at "W"
    try refine k_tupl3 e3 rfl rfl ?_
    walk_at "W"
    refine w_fld e1 T.c_Floor T.nf_Floor_shift (ff_shift _ _) ?_
    walk_at "W"
    try refine w_ixT e2 rfl ?_
    refine ⟨vx, px, _, _, _, rfl, h1, sz.p, sz.wm.mono (by decide), sz.wa.mono (by decide), sz.wb.mono (by decide), e4, fun H1 s1 => ?_⟩
    have e11 := s1 _ _ e1
    have e21 := s1 _ _ e2
    walk_at "W"
    try refine ⟨_, rfl, ?_⟩
    walk_at "W"
    refine w_fld e11 T.c_Floor T.nf_Floor_shift (ff_shift _ _) ?_
    walk_at "W"
    try refine w_ixT e21 rfl ?_
    refine ⟨vy, py, _, _, _, rfl, LowAt.same h2 s1, sz.p, sz.wm.mono (by decide), sz.wc.mono (by decide), sz.wd.mono (by decide), s1 _ _ e5, fun H2 s2 => ?_⟩
    exact q H2 (s1.trans s2)
theorem prs_same {H : Hp} : ∀ {ws : List V}, (∀ v ∈ ws, (∃ a, v = .ref a) ∨ v = .non ∨ ∃ k, v = .int k) → Prs DSame ws ws H
  | [], _ => .nil
  | v :: ws, h => .cons (by
      rcases h v (List.mem_cons_self ..) with ⟨a, rfl⟩ | rfl | ⟨k, rfl⟩
      · exact .inr ⟨a, rfl, rfl⟩
      · exact .inl ⟨rfl, rfl, rfl⟩
      · exact .inl ⟨rfl, rfl, by simp [eqV]⟩) (prs_same fun w hw => h w (List.mem_cons_of_mem _ hw))
theorem tgs_kind {c : Addr} {H : Hp} {zs : List V} {B : Int} {os : List (Option (Int × Int))} (h : TgsAt c H zs B os) : ∀ v ∈ zs, (∃ a, v = .ref a) ∨ v = .non ∨ ∃ k, v = .int k := fun v hv => by
  obtain ⟨i, hi, e⟩ := List.getElem_of_mem hv
  have ho : i < os.length := by rw [← h.1]; exact hi
  have := h.2 i v os[i] (by rw [List.getElem?_eq_getElem hi, e]) (List.getElem?_eq_getElem ho)
  generalize os[i] = o at this
  cases o with
  | none => exact .inr (.inl this)
  | some x =>
    obtain ⟨a, dx, rfl, -⟩ := this
    exact .inl ⟨a, rfl⟩
abbrev s_Piece_eq : Stmt := inClass (top 70) 1
theorem sc_Piece_eq : FnScope ["self", "other"] ["self", "other"] (defScope s_Piece_eq) := ⟨rfl, rfl, rfl, by decide +kernel, rfl, by decide +kernel, by decide +kernel⟩

def sp_Piece_eq (Z : Zs) : Sp := fun vs H Q E =>
  ∃ v bs, vs = [v, v] ∧ PieceAt Z H v bs ∧ ∀ H', Same H H' → Q (.bl true) H'
theorem ok_Piece_eq (T : Txt Z mg)  (D : AtM Z.K Z.c_Piece "__eq__" "Piece.__eq__" s_Piece_eq ["self", "other"]) : HasM P w Z.K mg base Z.c_Piece "__eq__" 4 ["self", "other"] (sp_Piece_eq Z) := by
  refine D.ok sc_Piece_eq (fun vs H Q E h => ?_) (fun cdv A outer s H vs Q E hr h => ?_)
  · obtain ⟨v, bs, rfl, _⟩ := h
    rfl
  · refine ⟨_, (pss_one (ps_ret (pe_and (pe_callB call_isi rfl T.n_isinstance (by decide +kernel) (pa_cons (pv 1) (pa_cons (pe_glob (v := .ref Z.c_Piece) rfl T.g_Piece rfl) pa_nil))) (pe_one (pe_cmpR (op_eqSame (hr.mono (by decide))) (pe_fld (pv 0) rfl) (pe_fld (pv 1) rfl) (nomark _)))))), ?_⟩
    try simp only [cxOf]
    obtain ⟨v, bs, rfl, ⟨a, dx, u, ws, rfl, e1, e2, -, hw⟩, q⟩ := h
    have hk : ∀ v ∈ ws, (∃ a, v = .ref a) ∨ v = .non ∨ ∃ k, v = .int k := by
      rcases hw with ⟨-, rfl⟩ | ⟨-, h⟩
      · intro v hv
        cases hv
      · exact tgs_kind h
    walk_at "W"
    refine w_isiC (.base (.ins e1 T.kf_Piece.ty T.kf_Piece.ha T.kf_Piece.hn T.kf_Piece.htk T.kf_Piece.hm)) T.kf_Piece.cc ?_
    walk_at "W"
    refine w_fld e1 T.c_Piece T.nf_Piece_bounds rfl ?_
    walk_at "W"
    refine w_fld e1 T.c_Piece T.nf_Piece_bounds rfl ?_
    exact ⟨⟨u, u, _, _, rfl, rfl, SqT.of e2, SqT.of e2, prs_same hk⟩, q⟩
/-- a thing that == finds the same as itself -/
inductive Slf (Z : Zs) (H : Hp) : V → Prop
  | pl (v : V) (h : Selfy H v) : Slf Z H v
  | bl (b : Bool) : Slf Z H (.bl b)
  | tup (a : Addr) (xs : List V) (e : H a = some (.tup xs)) (h : ∀ v ∈ xs, (∃ a, v = .ref a) ∨ v = .non ∨ ∃ k, v = .int k) : Slf Z H (.ref a)
  | lst (a : Addr) (as : List Addr) (e : H a = some (.lst (as.map V.ref))) : Slf Z H (.ref a)
  | root (a dx : Addr) (t r b : Int) (e : H a = some (.ins Z.c_Root dx (rootF t r b))) : Slf Z H (.ref a)
  | piece (v : V) (bs : List Bn) (h : PieceAt Z H v bs) : Slf Z H v
theorem Selfy.sx {p : Addr} {H H' : Hp} {v : V} (h : Selfy H v) (h3 : ∀ a, v = .ref a → a ≠ p) (s : SameX p H H') : Selfy H' v := by
  cases h with
  | non => exact .non
  | int i => exact .int i
  | str s h => exact .str s h
  | lst a ns e => exact .lst a ns (s _ _ (h3 a rfl) e)
  | tup a ns e => exact .tup a ns (s _ _ (h3 a rfl) e)
  | dK a e => exact .dK a (s _ _ (h3 a rfl) e)
theorem Slf.sx {Z : Zs} {p : Addr} {H H' : Hp} {v : V} (h : Slf Z H v) (h3 : ∀ a, v = .ref a → a ≠ p) (s : SameX p H H') (k : Kps H H') : Slf Z H' v := by
  cases h with
  | pl v h => exact .pl _ (h.sx h3 s)
  | bl b => exact .bl b
  | tup a xs e h => exact .tup a xs (s _ _ (h3 a rfl) e) h
  | lst a as e => exact .lst a as (s _ _ (h3 a rfl) e)
  | root a dx t r b e => exact .root a dx t r b (s _ _ (h3 a rfl) e)
  | piece v bs h => exact .piece v bs (h.kps k)
theorem Slf.same {Z : Zs} {H H' : Hp} {v : V} (h : Slf Z H v) (s : Same H H') : Slf Z H' v := by
  cases h with
  | pl v h => exact .pl _ (h.same s)
  | bl b => exact .bl b
  | tup a xs e h => exact .tup a xs (s _ _ e) h
  | lst a as e => exact .lst a as (s _ _ e)
  | root a dx t r b e => exact .root a dx t r b (s _ _ e)
  | piece v bs h => exact .piece v bs (h.kps (Kps.same s))
def rMe (Z : Zs) (E : XK) : R2 := fun x y H Q => (rEqU Z.K x y H Q ∨ rEqG (DTup Z.K DSame) x y H Q) ∨ (rEqIds x y H Q ∨ (rOwnC Z.K Z.c_Root (sp_Root_eq Z) E x y H Q ∨ rOwnC Z.K Z.c_Piece (sp_Piece_eq Z) E x y H Q))
theorem eqRt_ins {H : Hp} {a C dx : Addr} {t r b : Int} (e : H a = some (.ins C dx (rootF t r b))) : eqRt H t r b (.ref a) = true := by
  show (match H a with | some (.ins _ _ fs) => decide (fs = rootF t r b) | _ => false) = true
  rw [e]
  exact decide_eq_true rfl
theorem w_me (T : Txt Z mg) {H : Hp} {Q : VK} {E : XK} {v : V} (h : Slf Z H v) (q : ∀ H', Same H H' → Q (.bl true) H') : rMe Z E v v H Q := by
  cases h with
  | pl v h => exact .inl (.inl (w_eqSelf h (q _ (Same.refl _))))
  | bl b => exact .inl (.inl (.inl ⟨.bool b, .bool b, .bl b, .bl b, by cases b <;> decide +kernel, by cases b <;> decide +kernel, by rw [show PyData.eqv (.bool b) (.bool b) = true by cases b <;> rfl]; exact q _ (Same.refl _)⟩))
  | tup a xs e h => exact .inl (.inr ⟨⟨a, a, xs, xs, rfl, rfl, SqT.of e, SqT.of e, prs_same h⟩, fun H' s => q H' s⟩)
  | lst a as e => exact .inr (.inl ⟨a, a, as, rfl, rfl, e, e, q _ (Same.refl _)⟩)
  | root a dx t r b e => exact .inr (.inr (.inl ⟨a, dx, _, .ref Z.c_Root, rfl, e, .base (.ins e T.ki.ty T.ki.ha T.ki.hn T.ki.htk T.ki.hm), by unfold PySem.W.notFirst; simp, _, _, t, r, b, rfl, ⟨a, dx, rfl, e⟩, .root a dx t r b e, by rw [eqRt_ins e]; exact q _ (Same.refl _)⟩))
  | piece v bs h =>
    have h0 := h
    obtain ⟨a, dx, u, ws, rfl, e1, -⟩ := h0
    exact .inr (.inr (.inr ⟨a, dx, _, .ref Z.c_Piece, rfl, e1, .base (.ins e1 T.kf_Piece.ty T.kf_Piece.ha T.kf_Piece.hn T.kf_Piece.htk T.kf_Piece.hm), by unfold PySem.W.notFirst; simp, _, bs, rfl, h, q⟩))
theorem w_eqBl {K : PySem.W.Frag} {H : Hp} {Q : VK} {b : Bool} (q : Q (.bl true) H) : rEqU K (.bl b) (.bl b) H Q :=
  .inl ⟨.bool b, .bool b, .bl b, .bl b, by cases b <;> decide +kernel, by cases b <;> decide +kernel, by rw [show PyData.eqv (.bool b) (.bool b) = true by cases b <;> rfl]; exact q⟩
theorem NoF.kps {Z : Zs} {H H' : Hp} {v : V} {p c : Addr} (h : NoF Z H v) (st : St5 H p c) (x : SameX p H H') (n : ∀ a, v = .ref a → a ≠ p) : NoF Z H' v := by
  rcases h with h | ⟨a, dx, fs, e, h⟩
  · refine .inl ?_
    cases h with
    | non => exact .non
    | bl b => exact .bl b
    | int i => exact .int i
    | str s => exact .str s
    | lst a xs e => exact .lst a xs (x _ _ (n a rfl) e)
    | tup a xs e => exact .tup a xs (x _ _ (n a rfl) e)
    | dK a xs e => exact .dK a xs (x _ _ (n a rfl) e)
    | root a dx t r b e => exact .root a dx t r b (x _ _ (n a rfl) e)
  · exact .inr ⟨a, dx, fs, e, x _ _ (n a e) h⟩
theorem eqF_self {t r b t' r' b' : Int} : (eqF t r b t r b && eqF t' r' b' t' r' b') = true := by simp [eqF]
theorem k_eqFS (T : Txt Z mg) {H : Hp} {Q : VK} {E : XK} {x y : V} {S : Sh} (hf : FlS Z H x S) (hg : FlS Z H y S) (q : ∀ H', Same H H' → Q (.bl true) H') : rOwnC Z.K Z.c_Floor (sp_Floor_eq Z) E x y H Q := by
  have hf0 := hf
  have hg0 := hg
  obtain ⟨a, dx, u, g, x, y, B, X1, X2, Y1, Y2, rfl, e1, -⟩ := hf0
  obtain ⟨a', dx', u', g', x', y', B', Z1, Z2, W1, W2, rfl, e1', -⟩ := hg0
  exact ⟨a, dx, _, .ref Z.c_Floor, rfl, e1, .base (.ins e1' T.kf_Floor.ty T.kf_Floor.ha T.kf_Floor.hn T.kf_Floor.htk T.kf_Floor.hm), by unfold PySem.W.notFirst; simp, _, _, _, _, _, _, _, _, rfl, hf, .inr ⟨_, _, _, _, _, _, hg, fun H' s => by rw [eqF_self]; exact q H' s⟩⟩
abbrev s__law_no_floor : Stmt := top 93
theorem sc__law_no_floor : FnScope ["dice", "floor", "odd"] ["dice", "floor"] (defScope s__law_no_floor) := ⟨rfl, rfl, rfl, by decide +kernel, rfl, by decide +kernel, by decide +kernel⟩

def sp__law_no_floor (Z : Zs) : Sp := fun vs H Q E =>
  ∃ (p c : Addr) (v : V) (S : Sh), vs = [.ref p, v] ∧ St5 H p c ∧ FlS Z H v S ∧ ∀ u H', SameX p H H' → St5 H' p c → NoF Z H' u → Slf Z H' u → (∀ a, u = .ref a → a ≠ p) → Q u H'
theorem ok__law_no_floor (T : Txt Z mg) (h__law_draw : Has P w Z.K mg base "_law_draw" 1 ["dice", "many"] (sp__law_draw Z)) (h_Piece : HasC P w Z.K mg base "Piece" Z.c_Piece 9 ["self", "bounds"] (sp_Piece_init Z)) (D : AtF Z.K mg "_law_no_floor" "_law_no_floor" s__law_no_floor ["dice", "floor"]) : Has P w Z.K mg base "_law_no_floor" 11 ["dice", "floor"] (sp__law_no_floor Z) := by
  refine D.ok sc__law_no_floor (fun vs H Q E h => ?_) (fun cdv A outer s H vs Q E hr h => ?_)
  · obtain ⟨p, c, v, S, rfl, _⟩ := h
    rfl
  · refine ⟨_, (pss_cons (ps_set (i := 2) sc__law_no_floor.nd rfl (Or.inl rfl) (pe_lst (pa_cons pe_non (pa_cons pe_bl (pa_cons pe_int (pa_cons pe_str (pa_cons (pe_fld (pv 1) rfl) (pa_cons (pe_lst (pa_cons (pe_fld (pv 1) rfl) pa_nil)) (pa_cons pe_dnewK (pa_cons (pe_ix ix_seq (pe_fld (pv 1) rfl) pe_int (fun _ _ => rfl)) (pa_cons (pe_hc (E := ED E) h_Piece hr (paW (takes_of rfl rfl rfl rfl)) (pa_cons (pe_lst (pa_cons (pe_tup (pa_cons pe_int (pa_cons pe_int pa_nil))) pa_nil)) pa_nil)) (pa_cons (pe_tup (pa_cons pe_int (pa_cons pe_int pa_nil))) pa_nil))))))))))))
      (pss_one (ps_ret (pe_ix ix_seq (pv 2) (pe_h (E := ED E) h__law_draw hr (paW (takes_of rfl rfl rfl rfl)) (pa_cons (pv 0) (pa_cons pe_int pa_nil))) (fun _ _ => rfl))))), ?_⟩
    try simp only [cxOf]
    obtain ⟨p, c, v, S, rfl, st, ⟨a, dx, u, g, vx, vy, B, X1, X2, Y1, Y2, rfl, e1, e2, h1, h2, -⟩, q⟩ := h
    walk_at "W"
    refine w_fld e1 T.c_Floor T.nf_Floor_shift (ff_shift _ _) ?_
    walk_at "W"
    refine w_fld e1 T.c_Floor T.nf_Floor_shift (ff_shift _ _) ?_
    walk_at "W"
    refine k_lst rfl fun l1 H1 hl1 s1 el1 => ?_
    walk_at "W"
    refine k_dnew fun a2 H2 ha2 s2 ea2 => ?_
    have S2 := s1.trans s2
    walk_at "W"
    refine w_fld (S2 _ _ e1) T.c_Floor T.nf_Floor_shift (ff_shift _ _) ?_
    walk_at "W"
    try refine w_ixT (S2 _ _ e2) rfl ?_
    walk_at "W"
    refine k_tup rfl fun t3 H3 ht3 s3 et3 => ?_
    walk_at "W"
    refine k_lst rfl fun l4 H4 hl4 s4 el4 => ?_
    have low1' : lowT 1 0 1 = 1 ∧ lowR 1 0 1 = 0 ∧ lowB 1 0 1 = 1 := by decide +kernel
    have sm1 : Sm 1 0 1 := by
      have := Sm.low (t := 1) (r := 0) (b := 1) (by decide) (Bw.one.mono (by decide)) (Bw.zero.mono (by decide)) (Bw.one.mono (by decide))
      rw [low1'.1, low1'.2.1, low1'.2.2] at this
      exact this
    walk_at "W"
    have bk : BsOk [⟨0, 1, 0, 1⟩] := by
      have el : leastN [⟨0, 1, 0, 1⟩] = [some ⟨0, 1, 0, 1⟩, none, none, none, none, none, none, none] := by rfl
      refine ⟨fun x hx => ?_, ?_, ?_⟩
      · rw [List.mem_singleton.mp hx]
        exact ⟨by decide, by decide, by unfold Bw; decide, by unfold Bw; decide, by unfold Bw; decide⟩
      · rw [el]
        unfold Bw
        decide +kernel
      · rw [el]
        refine ⟨rfl, fun o ho z e => ?_⟩
        simp only [List.map_cons, List.map_nil, List.mem_cons, List.not_mem_nil, or_false] at ho
        rcases ho with rfl | rfl | rfl | rfl | rfl | rfl | rfl | rfl
        · cases e
          exact ⟨by unfold Bw; decide +kernel, by unfold Bw; decide +kernel⟩
        all_goals cases e
    refine k_mkPiece ⟨l4, [.ref t3], rfl, .inl el4, by simp, ⟨rfl, fun i v x e e' => ?_⟩, bk.1⟩ bk fun pv H5 s5 hP => ?_
    · rcases i with _ | i
      · cases e
        cases e'
        exact ⟨t3, _, rfl, s4 _ _ et3, .inr ⟨1, rfl, rfl, rfl, rfl⟩, sm1⟩
      · simp at e
    walk_at "W"
    refine k_tup rfl fun t6 H6 ht6 s6 et6 => ?_
    walk_at "W"
    refine k_lst rfl fun l7 H7 hl7 s7 el7 => ?_
    have S5 := s3.trans (s4.trans s5)
    have n1 := st.new hl1
    have st6 := (((st.same S2).same S5).same s6)
    have n7 := st6.new hl7
    have st7 := st6.same s7
    walk_at "W"
    refine ⟨p, c, _, rfl, st7, by decide, by unfold Bw; decide, fun n H8 k0 k1 x8 st8 => ?_⟩
    obtain ⟨j, rfl⟩ := Int.eq_ofNat_of_zero_le k0
    have j10 : j < 10 := by omega
    have e8 := x8 _ _ n7.1 el7
    have K8 := st7.kps x8
    have S7 := S5.trans (s6.trans s7)
    have X8 : SameX p H H8 := (Same.x (S2.trans S7)).trans x8
    have no : ∀ {u : V}, ThI Z H8 u → Slf Z H8 u → (∀ a, u = .ref a → a ≠ p) → Q u H8 := fun h => q _ H8 X8 st8 (.inl h)
    have KK : Kps H H8 := (Kps.same (S2.trans S7)).trans K8
    have nr : ∀ {a : Addr} {o : HO}, H8 a = some o → (∀ xs, o ≠ .lst xs) → ∀ a', V.ref a = .ref a' → a' ≠ p := fun e n a' z => by cases z; exact st8.ne e n
    obtain ⟨rx, rdx, rfl, erx⟩ := h1
    obtain ⟨ry, rdy, rfl, ery⟩ := h2
    have eu8 := KK.tup e2
    have el8 := x8 _ _ n1.1 (S7 _ _ (s2 _ _ el1))
    have ed8 := K8 _ _ (by intro xs z; cases z) (S7 _ _ ea2)
    have er8 := KK _ _ (by intro xs z; cases z) erx
    have et8 := K8.tup (s7 _ _ et6)
    rcases (show j = 0 ∨ j = 1 ∨ j = 2 ∨ j = 3 ∨ j = 4 ∨ j = 5 ∨ j = 6 ∨ j = 7 ∨ j = 8 ∨ j = 9 by omega) with rfl | rfl | rfl | rfl | rfl | rfl | rfl | rfl | rfl | rfl
    · exact w_ixL e8 rfl (no .non (.pl _ .non) (fun a z => by cases z))
    · exact w_ixL e8 rfl (no (.bl _) (.bl _) (fun a z => by cases z))
    · exact w_ixL e8 rfl (no (.int _) (.pl _ (.int _)) (fun a z => by cases z))
    · exact w_ixL e8 rfl (no (.str _) (.pl _ (.str _ (by decide +kernel))) (fun a z => by cases z))
    · exact w_ixL e8 rfl (no (.tup u _ eu8) (.tup u _ eu8 (by simp)) (nr eu8 (by intro xs z; cases z)))
    · exact w_ixL e8 rfl (no (.lst l1 _ el8) (.lst l1 [u] el8) (fun a z => by cases z; exact n1.1))
    · exact w_ixL e8 rfl (no (.dK a2 _ ed8) (.pl _ (.dK a2 ed8)) (nr ed8 (by intro xs z; cases z)))
    · exact w_ixL e8 rfl (no (.root rx rdx _ _ _ er8) (.root rx rdx _ _ _ er8) (nr er8 (by intro xs z; cases z)))
    · have hP8 := (hP.kps (Kps.same (s6.trans s7))).kps K8
      have hP9 := hP8
      obtain ⟨pa, pdx, pu, pws, rfl, pe, -⟩ := hP8
      exact w_ixL e8 rfl (q _ H8 X8 st8 (.inr ⟨pa, pdx, _, rfl, pe⟩) (.piece _ _ hP9) (nr pe (by intro xs z; cases z)))
    · exact w_ixL e8 rfl (no (.tup t6 _ et8) (.pl _ (.tup t6 [0, 0] et8)) (nr et8 (by intro xs z; cases z)))
abbrev s__law_no_size : Stmt := top 94
theorem sc__law_no_size : FnScope ["dice", "most", "far", "odd"] ["dice", "most"] (defScope s__law_no_size) := ⟨rfl, rfl, rfl, by decide +kernel, rfl, by decide +kernel, by decide +kernel⟩

def sp__law_no_size (Z : Zs) : Sp := fun vs H Q E =>
  ∃ (p c : Addr), vs = [.ref p, .int 40] ∧ St5 H p c ∧ ∀ u H', SameX p H H' → St5 H' p c → ThI Z H' u → (isI u = false ∨ ∃ i, u = .int i ∧ ¬ (-40 ≤ i ∧ i ≤ 40)) → Slf Z H' u → (∀ a, u = .ref a → a ≠ p) → Q u H'
theorem ok__law_no_size (T : Txt Z mg) (h__law_draw : Has P w Z.K mg base "_law_draw" 1 ["dice", "many"] (sp__law_draw Z)) (h_Root : HasC P w Z.K mg base "Root" Z.c_Root 3 ["self", "top", "root", "bottom"] (sp_Root_init Z)) (D : AtF Z.K mg "_law_no_size" "_law_no_size" s__law_no_size ["dice", "most"]) : Has P w Z.K mg base "_law_no_size" 5 ["dice", "most"] (sp__law_no_size Z) := by
  refine D.ok sc__law_no_size (fun vs H Q E h => ?_) (fun cdv A outer s H vs Q E hr h => ?_)
  · obtain ⟨p, c, rfl, _⟩ := h
    rfl
  · refine ⟨_, (pss_cons (ps_set (i := 2) sc__law_no_size.nd rfl (Or.inl rfl) (pe_op op_add (pe_op op_add (pv 1) pe_int) (pe_h (E := ED E) h__law_draw hr (paW (takes_of rfl rfl rfl rfl)) (pa_cons (pv 0) (pa_cons (pe_op op_pow pe_int pe_int) pa_nil)))))
      (pss_cons (ps_set (i := 3) sc__law_no_size.nd rfl (Or.inl rfl) (pe_lst (pa_cons pe_non (pa_cons pe_bl (pa_cons pe_bl (pa_cons pe_str (pa_cons (pv 2) (pa_cons (pe_un un_neg (pv 2)) (pa_cons (pe_op op_add (pv 1) pe_int) (pa_cons (pe_op op_sub (pe_un un_neg (pv 1)) pe_int) (pa_cons (pe_tup (pa_cons pe_int pa_nil)) (pa_cons (pe_lst (pa_cons pe_int pa_nil)) (pa_cons (pe_hc (E := ED E) h_Root hr (paW (takes_of rfl rfl rfl rfl)) (pa_cons pe_int (pa_cons pe_int (pa_cons pe_int pa_nil)))) (pa_cons pe_dnewK pa_nil))))))))))))))
      (pss_one (ps_ret (pe_ix ix_seq (pv 3) (pe_h (E := ED E) h__law_draw hr (paW (takes_of rfl rfl rfl rfl)) (pa_cons (pv 0) (pa_cons pe_int pa_nil))) (fun _ _ => rfl)))))), ?_⟩
    try simp only [cxOf]
    obtain ⟨p, c, rfl, st, q⟩ := h
    walk_at "W"
    refine ⟨p, c, _, rfl, st, by decide, by unfold Bw; decide, fun k H1 k0 k1 x1 st1 => ?_⟩
    walk_at "W"
    refine k_tup rfl fun a2 H2 h2 s2 e2 => ?_
    walk_at "W"
    refine k_lst rfl fun a3 H3 h3 s3 e3 => ?_
    walk_at "W"
    refine k_mkRootI (by decide) (Bw.one.bd (by decide)) fun a4 H4 s4 hR => ?_
    obtain ⟨ra, rdx, rfl, era⟩ := hR
    walk_at "W"
    refine k_dnew fun a5 H5 h5 s5 e5 => ?_
    walk_at "W"
    refine k_lst rfl fun l6 H6 hl6 s6 e6 => ?_
    have S5 := s2.trans (s3.trans (s4.trans s5))
    have n6 := (st1.same S5).new hl6
    have st6 := (st1.same S5).same s6
    walk_at "W"
    refine ⟨p, c, _, rfl, st6, by decide, by unfold Bw; decide, fun n H7 n0 n1 x7 st7 => ?_⟩
    obtain ⟨j, rfl⟩ := Int.eq_ofNat_of_zero_le n0
    have j12 : j < 12 := by omega
    have e7 := x7 _ _ n6.1 e6
    have K7 := st6.kps x7
    have X7 : SameX p H H7 := x1.trans ((Same.x (S5.trans s6)).trans x7)
    have no : ∀ {u : V}, ThI Z H7 u → isI u = false → Slf Z H7 u → (∀ a, u = .ref a → a ≠ p) → Q u H7 := fun h i => q _ H7 X7 st7 h (.inl i)
    have num : ∀ {i : Int}, ¬ (-40 ≤ i ∧ i ≤ 40) → Q (.int i) H7 := fun h => q _ H7 X7 st7 (.int _) (.inr ⟨_, rfl, h⟩) (.pl _ (.int _)) (fun a z => by cases z)
    have n3 := (st1.same s2).new h3
    have S6 := s4.trans (s5.trans s6)
    have nr : ∀ {a : Addr} {o : HO}, H7 a = some o → (∀ xs, o ≠ .lst xs) → ∀ a', V.ref a = .ref a' → a' ≠ p := fun e n a' z => by cases z; exact st7.ne e n
    have et7 := K7.tup (S6 _ _ (s3 _ _ e2))
    have el7 := x7 _ _ n3.1 (S6 _ _ e3)
    have er7 := K7 _ _ (by intro xs z; cases z) ((s5.trans s6) _ _ era)
    have ed7 := K7 _ _ (by intro xs z; cases z) (s6 _ _ e5)
    rcases (show j = 0 ∨ j = 1 ∨ j = 2 ∨ j = 3 ∨ j = 4 ∨ j = 5 ∨ j = 6 ∨ j = 7 ∨ j = 8 ∨ j = 9 ∨ j = 10 ∨ j = 11 by omega) with rfl | rfl | rfl | rfl | rfl | rfl | rfl | rfl | rfl | rfl | rfl | rfl
    · exact w_ixL e7 rfl (no .non rfl (.pl _ .non) (fun a z => by cases z))
    · exact w_ixL e7 rfl (no (.bl _) rfl (.bl _) (fun a z => by cases z))
    · exact w_ixL e7 rfl (no (.bl _) rfl (.bl _) (fun a z => by cases z))
    · exact w_ixL e7 rfl (no (.str _) rfl (.pl _ (.str _ (by decide +kernel))) (fun a z => by cases z))
    · exact w_ixL e7 rfl (num (by omega))
    · exact w_ixL e7 rfl (num (by omega))
    · exact w_ixL e7 rfl (num (by decide))
    · exact w_ixL e7 rfl (num (by decide))
    · exact w_ixL e7 rfl (no (.tup a2 _ et7) rfl (.pl _ (.tup a2 [1] et7)) (nr et7 (by intro xs z; cases z)))
    · exact w_ixL e7 rfl (no (.lst a3 _ el7) rfl (.pl _ (.lst a3 [1] el7)) (fun a z => by cases z; exact n3.1))
    · exact w_ixL e7 rfl (no (.root ra rdx _ _ _ er7) rfl (.root ra rdx _ _ _ er7) (nr er7 (by intro xs z; cases z)))
    · exact w_ixL e7 rfl (no (.dK a5 _ ed7) rfl (.pl _ (.dK a5 ed7)) (nr ed7 (by intro xs z; cases z)))
/-- what stands in the law -/
structure J63 (Z : Zs) (H : Hp) (sv fl f1 f2 : V) (u1 : Addr) (S : Sh) (k j : Int) : Prop where
  s : SgAt H sv S
  f : FlS Z H fl S
  e : H u1 = some (.tup [.str "floor told", f1])
  f1 : FlS Z H f1 (ledS S k)
  f2 : FlS Z H f2 (ledS (ledS S k) j)
theorem J63.same {Z : Zs} {H H' : Hp} {sv fl f1 f2 : V} {u1 : Addr} {S : Sh} {k j : Int} (h : J63 Z H sv fl f1 f2 u1 S k j) (s : Same H H') : J63 Z H' sv fl f1 f2 u1 S k j := ⟨h.s.same s, h.f.same s, s _ _ h.e, h.f1.same s, h.f2.same s⟩
abbrev s__law_told : Stmt := top 95
theorem sc__law_told : FnScope ["thing", "many", "found", "e"] ["thing", "many"] (defScope s__law_told) := ⟨rfl, rfl, rfl, by decide +kernel, rfl, by decide +kernel, by decide +kernel⟩

def sp__law_told (Z : Zs) : Sp := fun vs H Q E =>
  ∃ v k : V, vs = [v, k] ∧ (NoF Z H v ∧ (∀ u H', Same H H' → H' u = some (.tup [.str "floor", v, .bl true]) → Q (.ref u) H') ∨ ∃ S, FlS Z H v S ∧ ThI Z H k ∧ ((isI k = false ∨ ∃ i, k = .int i ∧ ¬ (-40 ≤ i ∧ i ≤ 40)) ∧ (∀ u H', Same H H' → H' u = some (.tup [.str "size", k, .bl true]) → Q (.ref u) H') ∨ ∃ i : Int, k = .int i ∧ -40 ≤ i ∧ i ≤ 40 ∧ ShZ 240 S ∧ ∀ u f H', Same H H' → H' u = some (.tup [.str "floor told", f]) → FlS Z H' f (ledS S i) → Q (.ref u) H'))
theorem ok__law_told (T : Txt Z mg) (h_led_up : Has P w Z.K mg base "led_up" 12 ["floor", "many"] (sp_led_up Z)) (D : AtF Z.K mg "_law_told" "_law_told" s__law_told ["thing", "many"]) : Has P w Z.K mg base "_law_told" 13 ["thing", "many"] (sp__law_told Z) := by
  refine D.ok sc__law_told (fun vs H Q E h => ?_) (fun cdv A outer s H vs Q E hr h => ?_)
  · obtain ⟨v, k, rfl, _⟩ := h
    rfl
  · refine ⟨_, (pss_cons (ps_set (i := 2) sc__law_told.nd rfl (Or.inl rfl) (pe_tup (pa_cons pe_str (pa_cons pe_non pa_nil))))
      (pss_cons (ps_try_clauses (tb := fun W => tAsg (tTup (tCons (tC (.str "floor told")) (tCons (tCallS (sp_led_up Z) (WE W) (tCons (tVar 0) (tCons (tVar 1) tNil))) tNil))) (gName 2)) rfl rfl takes0 (fun W pn xe tk po => (pss_one (ps_set (i := 2) sc__law_told.nd rfl (Or.inl rfl) (pe_tup (pa_cons pe_str (pa_cons (pe_h (E := WE W) h_led_up hr (paW tk) (pa_cons (pv 0) (pa_cons (pv 1) pa_nil))) pa_nil)))))) (ClausesOk.cons (c := .ref Z.c_BadFloor) (i := 3) sc__law_told.nd rfl rfl ⟨rfl, by decide, Or.inl T.g_BadFloor⟩ (fun a oe cls d pn hz hf => (pss_one (ps_set (i := 2) sc__law_told.nd rfl (Or.inl rfl) (pe_tup (pa_cons pe_str (pa_cons (pe_xf T.xf_BadFloor T.xn_BadFloor hz hf (pv 3)) (pa_cons (pe_and (pe_callB (cn_isX T.xi_BadFloor hz hf) rfl T.n_isinstance (by decide +kernel) (pa_cons (pv 3) (pa_cons (pe_glob (v := .ref Z.c_FloorError) rfl T.g_FloorError rfl) pa_nil))) (pe_one (pe_not (pe_callB (cn_isX T.xi_BadFloor hz hf) rfl T.n_isinstance (by decide +kernel) (pa_cons (pv 3) (pa_cons (pe_glob (v := .ref Z.c_BadSize) rfl T.g_BadSize rfl) pa_nil)))))) pa_nil))))))) (ClausesOk.cons (c := .ref Z.c_BadSize) (i := 3) sc__law_told.nd rfl rfl ⟨rfl, by decide, Or.inl T.g_BadSize⟩ (fun a oe cls d pn hz hf => (pss_one (ps_set (i := 2) sc__law_told.nd rfl (Or.inl rfl) (pe_tup (pa_cons pe_str (pa_cons (pe_xf T.xf_BadSize T.xn_BadSize hz hf (pv 3)) (pa_cons (pe_and (pe_callB (cn_isX T.xi_BadSize hz hf) rfl T.n_isinstance (by decide +kernel) (pa_cons (pv 3) (pa_cons (pe_glob (v := .ref Z.c_FloorError) rfl T.g_FloorError rfl) pa_nil))) (pe_one (pe_callB (cn_isX T.xi_BadSize hz hf) rfl T.n_isinstance (by decide +kernel) (pa_cons (pv 3) (pa_cons (pe_bltn (v := .ty "ValueError") rfl T.n_ValueError (by decide +kernel) rfl) pa_nil))))) pa_nil))))))) ClausesOk.nil)))
      (pss_one (ps_ret (pv 2))))), ?_⟩
    try simp only [cxOf]
    obtain ⟨v, k, rfl, ⟨n, q⟩ | ⟨S, hf, th, ⟨bad, q⟩ | ⟨i, rfl, i0, i1, sz, q⟩⟩⟩ := h
    · walk_at "W"
      refine k_tup rfl fun u1 H1 hu1 s1 e1 => ?_
      walk_at "W"
      refine ⟨_, _, rfl, .inl ⟨n.same s1, fun d H2 hd s2 e2 => k_cl1 T.xm_BadFloor fun a0 ha0 => ?_⟩⟩
      dsimp only
      walk_at "W"
      refine k_xf e2 ?_
      walk_at "W"
      refine w_isX e2 T.xk_BadFloor_FloorError ?_
      walk_at "W"
      refine w_isX e2 T.xk_BadFloor_BadSize ?_
      walk_at "W"
      refine k_tup rfl fun u3 H3 hu3 s3 e3 => ?_
      walk_at "W"
      exact q u3 H3 (s1.trans (s2.trans s3)) e3
    · walk_at "W"
      refine k_tup rfl fun u1 H1 hu1 s1 e1 => ?_
      walk_at "W"
      refine ⟨_, _, rfl, .inr ⟨S, hf.same s1, th.same s1, .inl ⟨bad, fun d H2 hd s2 e2 => k_cl2 T.xo_BadSize_BadFloor (k_cl1 T.xm_BadSize fun a0 ha0 => ?_)⟩⟩⟩
      dsimp only
      walk_at "W"
      refine k_xf e2 ?_
      walk_at "W"
      refine w_isX e2 T.xk_BadSize_FloorError ?_
      walk_at "W"
      refine w_isXT e2 T.xk_BadSize_ValueError ?_
      walk_at "W"
      refine k_tup rfl fun u3 H3 hu3 s3 e3 => ?_
      walk_at "W"
      exact q u3 H3 (s1.trans (s2.trans s3)) e3
    · walk_at "W"
      refine k_tup rfl fun u1 H1 hu1 s1 e1 => ?_
      walk_at "W"
      refine ⟨_, _, rfl, .inr ⟨S, hf.same s1, th.same s1, .inr ⟨i, rfl, i0, i1, sz, fun f H2 s2 h2 => ?_⟩⟩⟩
      walk_at "W"
      refine k_tup rfl fun u3 H3 hu3 s3 e3 => ?_
      walk_at "W"
      exact q u3 f H3 (s1.trans (s2.trans s3)) e3 (h2.same s3)
    -- T.xk_BadFloor_FloorError T.xk_BadFloor_BadSize T.xk_BadSize_FloorError T.xk_BadSize_ValueError
abbrev s__law_both_refused : Stmt := top 96
theorem sc__law_both_refused : FnScope ["thing", "one", "e", "other"] ["thing"] (defScope s__law_both_refused) := ⟨rfl, rfl, rfl, by decide +kernel, rfl, by decide +kernel, by decide +kernel⟩

def sp__law_both_refused (Z : Zs) : Sp := fun vs H Q E =>
  ∃ v : V, vs = [v] ∧ NoF Z H v ∧ Slf Z H v ∧ ∀ H', Same H H' → Q (.bl true) H'
theorem ok__law_both_refused (T : Txt Z mg) (h_lesser_floor : Has P w Z.K mg base "lesser_floor" 12 ["floor"] (sp_lesser_floor Z)) (h_greater_floor : Has P w Z.K mg base "greater_floor" 12 ["floor"] (sp_greater_floor Z)) (h_Root_eq : HasM P w Z.K mg base Z.c_Root "__eq__" 2 ["self", "other"] (sp_Root_eq Z)) (h_Piece_eq : HasM P w Z.K mg base Z.c_Piece "__eq__" 4 ["self", "other"] (sp_Piece_eq Z)) (D : AtF Z.K mg "_law_both_refused" "_law_both_refused" s__law_both_refused ["thing"]) : Has P w Z.K mg base "_law_both_refused" 13 ["thing"] (sp__law_both_refused Z) := by
  refine D.ok sc__law_both_refused (fun vs H Q E h => ?_) (fun cdv A outer s H vs Q E hr h => ?_)
  · obtain ⟨v, rfl, _⟩ := h
    rfl
  · refine ⟨_, (pss_cons (ps_set (i := 1) sc__law_both_refused.nd rfl (Or.inl rfl) (pe_tup (pa_cons pe_str (pa_cons pe_non pa_nil))))
      (C8.pss_cut (ps_try_as (i := 2) (tb := fun W => tAsg (tTup (tCons (tC (.str "floor told")) (tCons (tCallS (sp_greater_floor Z) (WE W) (tCons (tVar 0) tNil)) tNil))) (gName 1)) rfl rfl sc__law_both_refused.nd rfl rfl ⟨rfl, by decide, Or.inl T.g_BadFloor⟩ takes0 (fun W pn xe tk po => (pss_one (ps_set (i := 1) sc__law_both_refused.nd rfl (Or.inl rfl) (pe_tup (pa_cons pe_str (pa_cons (pe_h (E := WE W) h_greater_floor hr (paW tk) (pa_cons (pv 0) pa_nil)) pa_nil)))))) (fun a oe cls d pn hz hf => (pss_one (ps_set (i := 1) sc__law_both_refused.nd rfl (Or.inl rfl) (pe_tup (pa_cons pe_str (pa_cons (pe_xf T.xf_BadFloor T.xn_BadFloor hz hf (pv 2)) pa_nil)))))))
      (pss_cons (ps_set (i := 3) sc__law_both_refused.nd rfl (Or.inl rfl) (pe_tup (pa_cons pe_str (pa_cons pe_non pa_nil))))
      (C8.pss_cut (ps_try_as (i := 2) (tb := fun W => tAsg (tTup (tCons (tC (.str "floor told")) (tCons (tCallS (sp_lesser_floor Z) (WE W) (tCons (tVar 0) tNil)) tNil))) (gName 3)) rfl rfl sc__law_both_refused.nd rfl rfl ⟨rfl, by decide, Or.inl T.g_BadFloor⟩ takes0 (fun W pn xe tk po => (pss_one (ps_set (i := 3) sc__law_both_refused.nd rfl (Or.inl rfl) (pe_tup (pa_cons pe_str (pa_cons (pe_h (E := WE W) h_lesser_floor hr (paW tk) (pa_cons (pv 0) pa_nil)) pa_nil)))))) (fun a oe cls d pn hz hf => (pss_one (ps_set (i := 3) sc__law_both_refused.nd rfl (Or.inl rfl) (pe_tup (pa_cons pe_str (pa_cons (pe_xf T.xf_BadFloor T.xn_BadFloor hz hf (pv 2)) pa_nil)))))))
      (pss_one (ps_ret (pe_and (pe_cmpR op_eq (pe_ix ix_seq (pv 1) pe_int (fun _ _ => rfl)) pe_str (nomark _)) (pe_and (pe_cmpR op_eq (pe_ix ix_seq (pv 3) pe_int (fun _ _ => rfl)) pe_str (nomark _)) (pe_and (pe_cmpR (((op_eqU hr.units).or (op_eqSame (hr.mono (by decide)))).or ((op_eqIds (Nat.lt_of_le_of_lt (Nat.le_add_right _ _) hr.units)).or ((op_eqC h_Root_eq hr passL).or (op_eqC h_Piece_eq hr passL)))) (pe_ix ix_seq (pv 1) pe_int (fun _ _ => rfl)) (pv 0) (nomark _)) (pe_one (pe_cmpR (((op_eqU hr.units).or (op_eqSame (hr.mono (by decide)))).or ((op_eqIds (Nat.lt_of_le_of_lt (Nat.le_add_right _ _) hr.units)).or ((op_eqC h_Root_eq hr passL).or (op_eqC h_Piece_eq hr passL)))) (pe_ix ix_seq (pv 3) pe_int (fun _ _ => rfl)) (pv 0) (nomark _)))))))))))), ?_⟩
    try simp only [cxOf]
    obtain ⟨v, rfl, n, sl, q⟩ := h
    walk_at "W"
    refine k_tup rfl fun u1 H1 hu1 s1 e1 => ?_
    walk_at "W"
    refine w_cut (fun σ' H' => ∃ u3, σ' = [some v, some (.ref u3), none, none] ∧ Same H H' ∧ H' u3 = some (.tup [.str "floor", v])) ?_ ?_
    · walk_at "W"
      refine ⟨v, rfl, .inl ⟨n.same s1, fun d H2 hd s2 e2 => ⟨true, T.xm_BadFloor, fun _ a0 ha0 => ?_, fun z => by cases z⟩⟩⟩
      walk_at "W"
      refine k_xf e2 ?_
      walk_at "W"
      refine k_tup rfl fun u3 H3 hu3 s3 e3 => ?_
      walk_at "W"
      exact ⟨u3, rfl, s1.trans (s2.trans s3), e3⟩
    rintro σ1 H3 ⟨u3, rfl, s3, e3⟩
    walk_at "W"
    refine k_tup rfl fun u4 H4 hu4 s4 e4 => ?_
    walk_at "W"
    refine w_cut (fun σ' H' => ∃ u5, σ' = [some v, some (.ref u3), none, some (.ref u5)] ∧ Same H H' ∧ H' u3 = some (.tup [.str "floor", v]) ∧ H' u5 = some (.tup [.str "floor", v])) ?_ ?_
    · walk_at "W"
      refine ⟨v, rfl, .inl ⟨n.same (s3.trans s4), fun d H5 hd s5 e5 => ⟨true, T.xm_BadFloor, fun _ a0 ha0 => ?_, fun z => by cases z⟩⟩⟩
      walk_at "W"
      refine k_xf e5 ?_
      walk_at "W"
      refine k_tup rfl fun u6 H6 hu6 s6 e6 => ?_
      walk_at "W"
      exact ⟨u6, rfl, s3.trans (s4.trans (s5.trans s6)), s6 _ _ (s5 _ _ (s4 _ _ e3)), e6⟩
    rintro σ2 H6 ⟨u5, rfl, s6, e6, e7⟩
    walk_at "W"
    refine w_me T (sl.same s6) fun H7 s7 => ?_
    walk_at "W"
    try refine w_ixT (s7 _ _ e7) rfl ?_
    walk_at "W"
    exact w_me T ((sl.same s6).same s7) fun H8 s8 => q H8 (s6.trans (s7.trans s8))
abbrev s__law_refusals : Stmt := top 97
theorem sc__law_refusals : FnScope ["dice", "floor", "many", "thing", "size", "kind", "told"] ["dice", "floor", "many"] (defScope s__law_refusals) := ⟨rfl, rfl, rfl, by decide +kernel, rfl, by decide +kernel, by decide +kernel⟩

def sp__law_refusals (Z : Zs) : Sp := fun vs H Q E =>
  ∃ (p c : Addr) (v : V) (k : Int) (S : Sh), vs = [.ref p, v, .int k] ∧ St5 H p c ∧ FlS Z H v S ∧ ShZ 75 S ∧ -40 ≤ k ∧ k ≤ 40 ∧ ∀ H', SameX p H H' → St5 H' p c → Q (.bl true) H'
theorem ok__law_refusals (T : Txt Z mg) (h__law_told : Has P w Z.K mg base "_law_told" 13 ["thing", "many"] (sp__law_told Z)) (h__law_no_size : Has P w Z.K mg base "_law_no_size" 5 ["dice", "most"] (sp__law_no_size Z)) (h__law_both_refused : Has P w Z.K mg base "_law_both_refused" 13 ["thing"] (sp__law_both_refused Z)) (h__law_no_floor : Has P w Z.K mg base "_law_no_floor" 11 ["dice", "floor"] (sp__law_no_floor Z)) (h__law_draw : Has P w Z.K mg base "_law_draw" 1 ["dice", "many"] (sp__law_draw Z)) (h_Root_eq : HasM P w Z.K mg base Z.c_Root "__eq__" 2 ["self", "other"] (sp_Root_eq Z)) (h_Piece_eq : HasM P w Z.K mg base Z.c_Piece "__eq__" 4 ["self", "other"] (sp_Piece_eq Z)) (D : AtF Z.K mg "_law_refusals" "_law_refusals" s__law_refusals ["dice", "floor", "many"]) : Has P w Z.K mg base "_law_refusals" 14 ["dice", "floor", "many"] (sp__law_refusals Z) := by
  refine D.ok sc__law_refusals (fun vs H Q E h => ?_) (fun cdv A outer s H vs Q E hr h => ?_)
  · obtain ⟨p, c, v, k, S, rfl, _⟩ := h
    rfl
  · refine ⟨_, (pss_cons (ps_set (i := 3) sc__law_refusals.nd rfl (Or.inl rfl) (pv 1))
      (pss_cons (ps_set (i := 4) sc__law_refusals.nd rfl (Or.inl rfl) (pv 2))
      (pss_cons (ps_set (i := 5) sc__law_refusals.nd rfl (Or.inl rfl) (pe_h (E := ED E) h__law_draw hr (paW (takes_of rfl rfl rfl rfl)) (pa_cons (pv 0) (pa_cons pe_int pa_nil))))
      (C8.pss_cut (ps_if (pt_cmpR op_ne (pv 5) pe_int (nomark _)) (pss_cons (ps_set (i := 3) sc__law_refusals.nd rfl (Or.inl rfl) (pe_h (E := ED E) h__law_no_floor hr (paW (takes_of rfl rfl rfl rfl)) (pa_cons (pv 0) (pa_cons (pv 1) pa_nil))))
      (pss_one (ps_if (pt_not (pt_val (pe_h (E := ED E) h__law_both_refused hr (paW (takes_of rfl rfl rfl rfl)) (pa_cons (pv 3) pa_nil)))) (pss_one (ps_ret pe_bl)) pss_nil))) pss_nil)
      (C8.pss_cut (ps_if (pt_cmpR op_ne (pv 5) pe_int (nomark _)) (pss_one (ps_set (i := 4) sc__law_refusals.nd rfl (Or.inl rfl) (pe_h (E := ED E) h__law_no_size hr (paW (takes_of rfl rfl rfl rfl)) (pa_cons (pv 0) (pa_cons pe_int pa_nil))))) pss_nil)
      (pss_cons (ps_set (i := 6) sc__law_refusals.nd rfl (Or.inl rfl) (pe_h (E := ED E) h__law_told hr (paW (takes_of rfl rfl rfl rfl)) (pa_cons (pv 3) (pa_cons (pv 4) pa_nil))))
      (pss_cons (ps_if (pt_cmpR op_ne (pv 5) pe_int (nomark _)) (pss_one (ps_ret (pe_and (pe_cmpR op_eq (pe_ix ix_seq (pv 6) pe_int (fun _ _ => rfl)) pe_str (nomark _)) (pe_and (pe_cmpR (((op_eqU hr.units).or (op_eqSame (hr.mono (by decide)))).or ((op_eqIds (Nat.lt_of_le_of_lt (Nat.le_add_right _ _) hr.units)).or ((op_eqC h_Root_eq hr passL).or (op_eqC h_Piece_eq hr passL)))) (pe_ix ix_seq (pv 6) pe_int (fun _ _ => rfl)) (pv 3) (nomark _)) (pe_one (pe_ix ix_seq (pv 6) pe_int (fun _ _ => rfl))))))) pss_nil)
      (pss_one (ps_ret (pe_and (pe_cmpR op_eq (pe_ix ix_seq (pv 6) pe_int (fun _ _ => rfl)) pe_str (nomark _)) (pe_and (pe_cmpR (((op_eqU hr.units).or (op_eqSame (hr.mono (by decide)))).or ((op_eqIds (Nat.lt_of_le_of_lt (Nat.le_add_right _ _) hr.units)).or ((op_eqC h_Root_eq hr passL).or (op_eqC h_Piece_eq hr passL)))) (pe_ix ix_seq (pv 6) pe_int (fun _ _ => rfl)) (pv 4) (nomark _)) (pe_and (pe_cmpR (op_eqU hr.units) (pe_callB call_isi rfl T.n_isinstance (by decide +kernel) (pa_cons (pe_ix ix_seq (pv 6) pe_int (fun _ _ => rfl)) (pa_cons (pe_bltn (v := .ty "bool") rfl T.n_bool (by decide +kernel) rfl) pa_nil))) (pe_callB call_isi rfl T.n_isinstance (by decide +kernel) (pa_cons (pv 4) (pa_cons (pe_bltn (v := .ty "bool") rfl T.n_bool (by decide +kernel) rfl) pa_nil))) (nomark _)) (pe_one (pe_ix ix_seq (pv 6) pe_int (fun _ _ => rfl))))))))))))))), ?_⟩
    try simp only [cxOf]
    obtain ⟨p, c, v, k, S, rfl, st, hf, sz, k0, k1, q⟩ := h
    walk_at "W"
    refine ⟨p, c, _, rfl, st, by decide, by unfold Bw; decide, fun kd H1 d0 d1 x1 st1 => ?_⟩
    walk_at "W"
    refine w_cut (fun σ' H' => ∃ th : V, σ' = [some (.ref p), some v, some (.int k), some th, some (.int k), some (.int kd), none] ∧ SameX p H H' ∧ St5 H' p c ∧ FlS Z H' v S ∧ (kd = 0 ∧ th = v ∨ kd ≠ 0 ∧ NoF Z H' th ∧ Slf Z H' th ∧ ∀ a, th = .ref a → a ≠ p)) ?_ ?_
    · walk_at "W"
      by_cases h0 : kd = 0
      · rw [decide_eq_true (congrArg V.int h0)]
        walk_at "W"
        exact ⟨v, rfl, x1, st1, hf.kps (st.kps x1), .inl ⟨h0, rfl⟩⟩
      · rw [decide_eq_false (fun z => h0 (by injection z))]
        walk_at "W"
        refine ⟨p, c, v, S, rfl, st1, hf.kps (st.kps x1), fun u H2 x2 st2 nf sl ne => ?_⟩
        walk_at "W"
        refine ⟨u, rfl, nf, sl, fun H3 s3 => ?_⟩
        walk_at "W"
        exact ⟨u, rfl, x1.trans (x2.trans (Same.x s3)), st2.same s3, ((hf.kps (st.kps x1)).kps (st1.kps x2)).same s3, .inr ⟨h0, nf.same s3, sl.same s3, ne⟩⟩
    rintro σ2 H2 ⟨th, rfl, x2, st2, hf2, hth⟩
    refine w_cut (fun σ' H' => ∃ sz : V, σ' = [some (.ref p), some v, some (.int k), some th, some sz, some (.int kd), none] ∧ SameX p H H' ∧ St5 H' p c ∧ FlS Z H' v S ∧ (kd = 0 ∧ th = v ∨ kd ≠ 0 ∧ NoF Z H' th ∧ Slf Z H' th) ∧ (kd = 1 ∨ ThI Z H' sz ∧ (isI sz = false ∨ ∃ i, sz = .int i ∧ ¬ (-40 ≤ i ∧ i ≤ 40)) ∧ Slf Z H' sz)) ?_ ?_
    · walk_at "W"
      by_cases h0 : kd = 1
      · rw [decide_eq_true (congrArg V.int h0)]
        walk_at "W"
        exact ⟨_, rfl, x2, st2, hf2, hth.imp id fun h => ⟨h.1, h.2.1, h.2.2.1⟩, .inl h0⟩
      · rw [decide_eq_false (fun z => h0 (by injection z))]
        walk_at "W"
        refine ⟨p, c, rfl, st2, fun u H3 x3 st3 ti bad sl ne => ?_⟩
        walk_at "W"
        refine ⟨u, rfl, x2.trans x3, st3, hf2.kps (st2.kps x3), hth.imp id fun h => ⟨h.1, NoF.kps h.2.1 st2 x3 h.2.2.2, h.2.2.1.sx h.2.2.2 x3 (st2.kps x3)⟩, .inr ⟨ti, bad, sl⟩⟩
    rintro σ3 H3 ⟨sz, rfl, x3, st3, hf3, hth, hsz⟩
    walk_at "W"
    rcases hth with ⟨h0, rfl⟩ | ⟨h0, nf, sl⟩
    · obtain ⟨ti, bad, sl⟩ := hsz.resolve_left (by omega)
      refine ⟨_, sz, rfl, .inr ⟨S, hf3, ti, .inl ⟨bad, fun u H4 s4 e4 => ?_⟩⟩⟩
      walk_at "W"
      rw [decide_eq_true (congrArg V.int h0)]
      walk_at "W"
      refine w_me T (sl.same s4) fun H5 s5 => ?_
      walk_at "W"
      try refine w_ixT (s5 _ _ e4) rfl ?_
      walk_at "W"
      obtain ⟨ty, hty, k1', k2⟩ := thI_ty (thI_same ti (s4.trans s5)) T
      refine w_isi hty k2 ?_
      walk_at "W"
      refine w_isi hty k2 ?_
      walk_at "W"
      refine w_eqBl ?_
      walk_at "W"
      try refine w_ixT (s5 _ _ e4) rfl ?_
      exact q H5 (x3.trans (Same.x (s4.trans s5))) (((st3.same s4)).same s5)
    · refine ⟨th, sz, rfl, .inl ⟨nf, fun u H4 s4 e4 => ?_⟩⟩
      walk_at "W"
      rw [decide_eq_false (fun z => h0 (by injection z))]
      walk_at "W"
      refine w_me T (sl.same s4) fun H5 s5 => ?_
      walk_at "W"
      try refine w_ixT (s5 _ _ e4) rfl ?_
      exact q H5 (x3.trans (Same.x (s4.trans s5))) (((st3.same s4)).same s5)
abbrev s_law : Stmt := top 98
theorem sc_law : FnScope ["script", "dice", "spoil", "one", "other", "shift", "floor", "first", "second", "high", "low"] ["script"] (defScope s_law) := ⟨rfl, rfl, rfl, by decide +kernel, rfl, by decide +kernel, by decide +kernel⟩

def sp_law (Z : Zs) : Sp := fun vs H Q E =>
  ∃ (a : Addr) (ns : List Int), vs = [.ref a] ∧ SqL Z.K H a (ns.map V.int) ∧ ∀ H', Q (.bl true) H'
theorem ok_law (T : Txt Z mg) (h__law_is_floor : Has P w Z.K mg base "_law_is_floor" 3 ["thing", "shift"] (sp__law_is_floor Z)) (h_led_up : Has P w Z.K mg base "led_up" 12 ["floor", "many"] (sp_led_up Z)) (h_greater_floor : Has P w Z.K mg base "greater_floor" 12 ["floor"] (sp_greater_floor Z)) (h_lesser_floor : Has P w Z.K mg base "lesser_floor" 12 ["floor"] (sp_lesser_floor Z)) (h__law_led : Has P w Z.K mg base "_law_led" 1 ["shift", "many"] (sp__law_led Z)) (h__law_told : Has P w Z.K mg base "_law_told" 13 ["thing", "many"] (sp__law_told Z)) (h__law_refusals : Has P w Z.K mg base "_law_refusals" 14 ["dice", "floor", "many"] (sp__law_refusals Z)) (h_Floor : HasC P w Z.K mg base "Floor" Z.c_Floor 9 ["self", "shift"] (sp_Floor_init Z)) (h__law_point : Has P w Z.K mg base "_law_point" 6 ["shift", "plain"] (sp__law_point Z)) (h__law_draw : Has P w Z.K mg base "_law_draw" 1 ["dice", "many"] (sp__law_draw Z)) (h__law_shift : Has P w Z.K mg base "_law_shift" 4 ["dice"] (sp__law_shift Z)) (h__law_dice : Has P w Z.K mg base "_law_dice" 1 ["script"] (sp__law_dice Z)) (h_Floor_eq : HasM P w Z.K mg base Z.c_Floor "__eq__" 4 ["self", "other"] (sp_Floor_eq Z)) {f : Addr} {fd : FuncData} (D : Fun Z.K "law" "law" s_law f fd) : FnOk P w Z.K mg base (L2.CX P w) 15 f fd ["script"] (sp_law Z) := by
  refine D.okX sc_law (fun vs H Q E h => ?_) (fun cdv A outer s H vs Q E hr h => ?_)
  · obtain ⟨a, ns, rfl, _⟩ := h
    rfl
  · refine ⟨_, (pss_cons (ps_set (i := 1) sc_law.nd rfl (Or.inl rfl) (pe_h (E := ED E) h__law_dice hr (paW (takes_of rfl rfl rfl rfl)) (pa_cons (pv 0) pa_nil)))
      (pss_cons (ps_set (i := 2) sc_law.nd rfl (Or.inl rfl) (pe_h (E := ED E) h__law_draw hr (paW (takes_of rfl rfl rfl rfl)) (pa_cons (pv 1) (pa_cons pe_int pa_nil))))
      (pss_cons (ps_set (i := 3) sc_law.nd rfl (Or.inl rfl) (pe_op op_sub (pe_h (E := ED E) h__law_draw hr (paW (takes_of rfl rfl rfl rfl)) (pa_cons (pv 1) (pa_cons pe_int pa_nil))) pe_int))
      (pss_cons (ps_set (i := 4) sc_law.nd rfl (Or.inl rfl) (pe_op op_sub (pe_h (E := ED E) h__law_draw hr (paW (takes_of rfl rfl rfl rfl)) (pa_cons (pv 1) (pa_cons pe_int pa_nil))) pe_int))
      (C8.pss_cut (ps_if (pt_cmpR op_eq (pe_h (E := ED E) h__law_draw hr (paW (takes_of rfl rfl rfl rfl)) (pa_cons (pv 1) (pa_cons pe_int pa_nil))) pe_int (nomark _)) (pss_one (ps_set (i := 3) sc_law.nd rfl (Or.inl rfl) (pe_op op_sub pe_int (pe_op op_mulS pe_int (pe_h (E := ED E) h__law_draw hr (paW (takes_of rfl rfl rfl rfl)) (pa_cons (pv 1) (pa_cons pe_int pa_nil))))))) pss_nil)
      (pss_cons (ps_set (i := 5) sc_law.nd rfl (Or.inl rfl) (pe_h (E := ED E) h__law_shift hr (paW (takes_of rfl rfl rfl rfl)) (pa_cons (pv 1) pa_nil)))
      (pss_cons (ps_set (i := 6) sc_law.nd rfl (Or.inl rfl) (pe_hc (E := ED E) h_Floor hr (paW (takes_of rfl rfl rfl rfl)) (pa_cons (pe_h (E := ED E) h__law_point hr (paW (takes_of rfl rfl rfl rfl)) (pa_cons (pv 5) (pa_cons (pe_cmpR op_eq (pe_h (E := ED E) h__law_draw hr (paW (takes_of rfl rfl rfl rfl)) (pa_cons (pv 1) (pa_cons pe_int pa_nil))) pe_int (nomark _)) pa_nil))) pa_nil)))
      (C8.pss_cut (ps_if (PW.pt (pw_and (pt_cmpR op_eq (pv 2) pe_int (nomark _)) (pw_and1 (pt_not (pt_val (pe_h (E := ED E) h__law_refusals hr (paW (takes_of rfl rfl rfl rfl)) (pa_cons (pv 1) (pa_cons (pv 6) (pa_cons (pv 3) pa_nil))))))))) (pss_one (ps_ret pe_bl)) pss_nil)
      (pss_cons (ps_set (i := 7) sc_law.nd rfl (Or.inl rfl) (pe_h (E := ED E) h__law_told hr (paW (takes_of rfl rfl rfl rfl)) (pa_cons (pv 6) (pa_cons (pv 3) pa_nil))))
      (pss_cons (ps_if (PW.pt (pw_or (pt_cmpR op_ne (pe_ix ix_seq (pv 7) pe_int (fun _ _ => rfl)) pe_str (nomark _)) (pw_or1 (pt_not (pt_val (pe_h (E := ED E) h__law_is_floor hr (paW (takes_of rfl rfl rfl rfl)) (pa_cons (pe_ix ix_seq (pv 7) pe_int (fun _ _ => rfl)) (pa_cons (pe_h (E := ED E) h__law_led hr (paW (takes_of rfl rfl rfl rfl)) (pa_cons (pv 5) (pa_cons (pv 3) pa_nil))) pa_nil)))))))) (pss_one (ps_ret pe_bl)) pss_nil)
      (pss_cons (ps_set (i := 8) sc_law.nd rfl (Or.inl rfl) (pe_h (E := ED E) h_led_up hr (paW (takes_of rfl rfl rfl rfl)) (pa_cons (pe_ix ix_seq (pv 7) pe_int (fun _ _ => rfl)) (pa_cons (pv 4) pa_nil))))
      (pss_cons (ps_if (pt_not (pt_val (pe_h (E := ED E) h__law_is_floor hr (paW (takes_of rfl rfl rfl rfl)) (pa_cons (pv 8) (pa_cons (pe_h (E := ED E) h__law_led hr (paW (takes_of rfl rfl rfl rfl)) (pa_cons (pe_h (E := ED E) h__law_led hr (paW (takes_of rfl rfl rfl rfl)) (pa_cons (pv 5) (pa_cons (pv 3) pa_nil))) (pa_cons (pv 4) pa_nil))) pa_nil))))) (pss_one (ps_ret pe_bl)) pss_nil)
      (C8.pss_cut (ps_if (PW.pt (pw_and (pt_cmpR op_le (pe_callB cn_abs rfl T.n_abs (by decide +kernel) (pa_cons (pe_op op_add (pv 3) (pv 4)) pa_nil)) pe_int (nomark _)) (pw_and1 (pt_not (pt_cmpR (op_eqC h_Floor_eq hr passL) (pe_h (E := ED E) h_led_up hr (paW (takes_of rfl rfl rfl rfl)) (pa_cons (pv 6) (pa_cons (pe_op op_add (pv 3) (pv 4)) pa_nil))) (pv 8) (nomark _)))))) (pss_one (ps_ret pe_bl)) pss_nil)
      (pss_cons (ps_if (PW.pt (pw_or (pt_not (pt_cmpR (op_eqC h_Floor_eq hr passL) (pe_h (E := ED E) h_led_up hr (paW (takes_of rfl rfl rfl rfl)) (pa_cons (pv 8) (pa_cons (pe_un un_neg (pv 4)) pa_nil))) (pe_ix ix_seq (pv 7) pe_int (fun _ _ => rfl)) (nomark _))) (pw_or1 (pt_not (pt_cmpR (op_eqC h_Floor_eq hr passL) (pe_h (E := ED E) h_led_up hr (paW (takes_of rfl rfl rfl rfl)) (pa_cons (pe_ix ix_seq (pv 7) pe_int (fun _ _ => rfl)) (pa_cons (pe_un un_neg (pv 3)) pa_nil))) (pv 6) (nomark _)))))) (pss_one (ps_ret pe_bl)) pss_nil)
      (pss_cons (ps_set (i := 9) sc_law.nd rfl (Or.inl rfl) (pe_h (E := ED E) h_greater_floor hr (paW (takes_of rfl rfl rfl rfl)) (pa_cons (pv 6) pa_nil)))
      (pss_cons (ps_set (i := 10) sc_law.nd rfl (Or.inl rfl) (pe_h (E := ED E) h_lesser_floor hr (paW (takes_of rfl rfl rfl rfl)) (pa_cons (pv 6) pa_nil)))
      (pss_cons (ps_if (PW.pt (pw_or (pt_not (pt_val (pe_h (E := ED E) h__law_is_floor hr (paW (takes_of rfl rfl rfl rfl)) (pa_cons (pv 9) (pa_cons (pe_h (E := ED E) h__law_led hr (paW (takes_of rfl rfl rfl rfl)) (pa_cons (pv 5) (pa_cons pe_int pa_nil))) pa_nil))))) (pw_or1 (pt_not (pt_val (pe_h (E := ED E) h__law_is_floor hr (paW (takes_of rfl rfl rfl rfl)) (pa_cons (pv 10) (pa_cons (pe_h (E := ED E) h__law_led hr (paW (takes_of rfl rfl rfl rfl)) (pa_cons (pv 5) (pa_cons (pe_un un_neg pe_int) pa_nil))) pa_nil)))))))) (pss_one (ps_ret pe_bl)) pss_nil)
      (pss_cons (ps_if (PW.pt (pw_or (pt_not (pt_cmpR (op_eqC h_Floor_eq hr passL) (pe_h (E := ED E) h_lesser_floor hr (paW (takes_of rfl rfl rfl rfl)) (pa_cons (pv 9) pa_nil)) (pv 6) (nomark _))) (pw_or (pt_not (pt_cmpR (op_eqC h_Floor_eq hr passL) (pe_h (E := ED E) h_greater_floor hr (paW (takes_of rfl rfl rfl rfl)) (pa_cons (pv 10) pa_nil)) (pv 6) (nomark _))) (pw_or1 (pt_not (pt_cmpR (op_eqC h_Floor_eq hr passL) (pe_h (E := ED E) h_led_up hr (paW (takes_of rfl rfl rfl rfl)) (pa_cons (pv 9) (pa_cons (pe_un un_neg pe_int) pa_nil))) (pv 10) (nomark _))))))) (pss_one (ps_ret pe_bl)) pss_nil)
      (pss_one (ps_ret (pe_and (pe_cmpR (op_eqC h_Floor_eq hr passL) (pe_h (E := ED E) h_led_up hr (paW (takes_of rfl rfl rfl rfl)) (pa_cons (pv 6) (pa_cons pe_int pa_nil))) (pv 6) (nomark _)) (pe_one (pe_h (E := ED E) h__law_is_floor hr (paW (takes_of rfl rfl rfl rfl)) (pa_cons (pv 6) (pa_cons (pv 5) pa_nil))))))))))))))))))))))))), ?_⟩
    try simp only [cxOf]
    obtain ⟨a, ns, rfl, hs, q⟩ := h
    walk_at "W"
    refine ⟨a, ns, rfl, hs, fun p c H1 hp s1 st1 => ?_⟩
    walk_at "W"
    refine ⟨p, c, _, rfl, st1, by decide, by unfold Bw; decide, fun sp H2 sp0 sp1 x2 st2 => ?_⟩
    walk_at "W"
    refine ⟨p, c, _, rfl, st2, by decide, by unfold Bw; decide, fun i H3 i0 i1 x3 st3 => ?_⟩
    walk_at "W"
    refine ⟨p, c, _, rfl, st3, by decide, by unfold Bw; decide, fun j H4 j0 j1 x4 st4 => ?_⟩
    walk_at "W"
    refine w_cut (fun σ' H' => ∃ k : Int, σ' = some (.ref a) :: some (.ref p) :: some (.int sp) :: some (.int k) :: some (.int (j - 40)) :: List.replicate 6 none ∧ St5 H' p c ∧ -40 ≤ k ∧ k ≤ 40) ?_ ?_
    · walk_at "W"
      refine ⟨p, c, _, rfl, st4, by decide, by unfold Bw; decide, fun k H5 k0 k1 x5 st5 => ?_⟩
      walk_at "W"
      by_cases hk : k = 0
      · rw [decide_eq_true (by rw [hk])]
        walk_at "W"
        refine ⟨p, c, _, rfl, st5, by decide, by unfold Bw; decide, fun k' H6 k0' k1' x6 st6 => ?_⟩
        walk_at "W"
        exact ⟨_, rfl, st6, by omega, by omega⟩
      · rw [decide_eq_false (fun z => hk (by injection z))]
        walk_at "W"
        exact ⟨_, rfl, st5, by omega, by omega⟩
    rintro σ1 H5 ⟨k, rfl, st5, k0, k1⟩
    obtain ⟨j', hj'⟩ : ∃ j', j' = j - 40 := ⟨_, rfl⟩
    rw [← hj']
    have j0' : -40 ≤ j' := by omega
    have j1' : j' ≤ 40 := by omega
    walk_at "W"
    refine ⟨p, c, rfl, st5, fun sv S H6 x6 st6 hS zS => ?_⟩
    walk_at "W"
    refine ⟨p, c, _, rfl, st6, by decide, by unfold Bw; decide, fun f H7 f0 f1 x7 st7 => ?_⟩
    have hS7 := hS.kps (st6.kps x7)
    walk_at "W"
    refine ⟨sv, S, _, rfl, hS7, zS.p, zS.wm.mono (by decide), fun u x y H8 s8 eu hx hy => ?_⟩
    walk_at "W"
    refine k_floorS (zS.mono (by decide)) eu hx hy fun fl H9 s9 hf => ?_
    have st9 := (st7.same s8).same s9
    have hS9 := (hS7.same s8).same s9
    walk_at "W"
    refine w_cut (fun σ' H' => σ' = some (.ref a) :: some (.ref p) :: some (.int sp) :: some (.int k) :: some (.int j') :: some sv :: some fl :: List.replicate 4 none ∧ SgAt H' sv S ∧ FlS Z H' fl S) ?_ ?_
    · walk_at "W"
      by_cases h0 : sp = 0
      · rw [decide_eq_true (by rw [h0])]
        walk_at "W"
        refine ⟨p, c, fl, k, S, rfl, st9, hf, zS, k0, k1, fun H10 xA stA => ?_⟩
        walk_at "W"
        exact ⟨rfl, hS9.kps (st9.kps xA), hf.kps (st9.kps xA)⟩
      · rw [decide_eq_false (fun z => h0 (by injection z))]
        walk_at "W"
        exact ⟨rfl, hS9, hf⟩
    rintro σ2 HA ⟨rfl, hSA, hfA⟩
    have z0 : ShZ 240 S := zS.mono (by decide)
    have z1 : ShZ 240 (ledS S k) := (zS.led k).mono (by omega)
    have z2 : ShZ 240 (ledS (ledS S k) j') := ((zS.led k).led j').mono (by omega)
    have zu : ShZ 240 (ledS S 1) := (zS.led 1).mono (by decide)
    have zd : ShZ 240 (ledS S (-1)) := (zS.led (-1)).mono (by decide)
    walk_at "W"
    refine ⟨fl, .int k, rfl, .inr ⟨S, hfA, .int k, .inr ⟨k, rfl, k0, k1, z0, fun u1 f1 HB sB eB hf1 => ?_⟩⟩⟩
    have hSB := hSA.same sB
    have hfB := hfA.same sB
    walk_at "W"
    try refine w_ixT eB rfl ?_
    walk_at "W"
    refine ⟨sv, S, k, rfl, hSB, by omega, by omega, fun u2 HC sC h2 => ?_⟩
    walk_at "W"
    refine ⟨f1, u2, ledS S k, rfl, hf1.same sC, h2, z1, fun HD sD => ?_⟩
    have SD := sC.trans sD
    have eD := SD _ _ eB
    walk_at "W"
    try refine w_ixT eD rfl ?_
    walk_at "W"
    refine ⟨f1, .int j', rfl, .inr ⟨ledS S k, hf1.same SD, .int j', .inr ⟨j', rfl, j0', j1', z1, fun f2 HE sE hf2 => ?_⟩⟩⟩
    have JE : J63 Z HE sv fl f1 f2 u1 S k j' := ⟨(hSB.same SD).same sE, (hfB.same SD).same sE, sE _ _ eD, (hf1.same SD).same sE, hf2⟩
    clear hSA hfA hSB hfB hf1 hf2 eB eD h2
    walk_at "W"
    refine ⟨sv, S, k, rfl, JE.s, by omega, by omega, fun u4 HF sF h4 => ?_⟩
    walk_at "W"
    refine ⟨u4, _, j', rfl, h4, by omega, by omega, fun u5 HG sG h5 => ?_⟩
    have JG := (JE.same sF).same sG
    walk_at "W"
    refine ⟨f2, u5, _, rfl, JG.f2, h5, z2, fun HI sI => ?_⟩
    have JI := JG.same sI
    clear JE JG h4 h5
    walk_at "W"
    refine w_cut (fun σ' H' => σ' = [some (.ref a), some (.ref p), some (.int sp), some (.int k), some (.int j'), some sv, some fl, some (.ref u1), some f2, none, none] ∧ Same HI H') ?_ ?_
    · walk_at "W"
      by_cases hk : ((k + j').natAbs : Int) ≤ 40
      · rw [decide_eq_true hk]
        walk_at "W"
        refine ⟨fl, .int (k + j'), rfl, .inr ⟨S, JI.f, .int _, .inr ⟨k + j', rfl, by omega, by omega, z0, fun u6 HJ sJ h6 => ?_⟩⟩⟩
        rw [← led_add] at h6
        walk_at "W"
        refine k_eqFS T h6 (JI.f2.same sJ) fun HK sK => ?_
        walk_at "W"
        exact ⟨rfl, sJ.trans sK⟩
      · rw [decide_eq_false hk]
        walk_at "W"
        exact ⟨rfl, Same.refl _⟩
    rintro σ3 HJ ⟨rfl, sJ⟩
    have JJ := JI.same sJ
    clear JI
    walk_at "W"
    refine ⟨f2, .int (-j'), rfl, .inr ⟨_, JJ.f2, .int _, .inr ⟨-j', rfl, by omega, by omega, z2, fun u6 HK sK h6 => ?_⟩⟩⟩
    rw [led_add, show j' + -j' = 0 by omega, led_zero] at h6
    have JK := JJ.same sK
    have eK := JK.e
    walk_at "W"
    try refine w_ixT eK rfl ?_
    refine k_eqFS T h6 JK.f1 fun HL sL => ?_
    have JL := JK.same sL
    have eL := JL.e
    clear JJ JK eK h6
    walk_at "W"
    try refine w_ixT eL rfl ?_
    walk_at "W"
    refine ⟨f1, .int (-k), rfl, .inr ⟨_, JL.f1, .int _, .inr ⟨-k, rfl, by omega, by omega, z1, fun u7 HM sM h7 => ?_⟩⟩⟩
    rw [led_add, show k + -k = 0 by omega, led_zero] at h7
    have JM := JL.same sM
    walk_at "W"
    refine k_eqFS T h7 JM.f fun HN sN => ?_
    have JN := JM.same sN
    clear JL JM eL h7
    walk_at "W"
    refine ⟨fl, rfl, .inr ⟨S, JN.f, z0, fun fh HO sO hfh => ?_⟩⟩
    have JO := JN.same sO
    walk_at "W"
    refine ⟨fl, rfl, .inr ⟨S, JO.f, z0, fun fw HP sP hfw => ?_⟩⟩
    have JP := JO.same sP
    have hhP := hfh.same sP
    clear JN JO hfh
    walk_at "W"
    refine ⟨sv, S, 1, rfl, JP.s, by omega, by omega, fun u8 HQ sQ h8 => ?_⟩
    walk_at "W"
    refine ⟨fh, u8, _, rfl, hhP.same sQ, h8, zu, fun HR sR => ?_⟩
    have JR := (JP.same sQ).same sR
    have hhR := (hhP.same sQ).same sR
    have hwR := (hfw.same sQ).same sR
    clear JP hhP hfw h8
    walk_at "W"
    refine ⟨sv, S, -1, rfl, JR.s, by omega, by omega, fun u9 HS sS h9 => ?_⟩
    walk_at "W"
    refine ⟨fw, u9, _, rfl, hwR.same sS, h9, zd, fun HT sT => ?_⟩
    have JT := (JR.same sS).same sT
    have hhT := (hhR.same sS).same sT
    have hwT := (hwR.same sS).same sT
    clear JR hhR hwR h9
    walk_at "W"
    refine ⟨fh, rfl, .inr ⟨_, hhT, zu, fun v1 HU sU g1 => ?_⟩⟩
    rw [led_add, show (1 : Int) + -1 = 0 by decide, led_zero] at g1
    walk_at "W"
    refine k_eqFS T g1 (JT.f.same sU) fun HV sV => ?_
    have SV := sU.trans sV
    walk_at "W"
    refine ⟨fw, rfl, .inr ⟨_, hwT.same SV, zd, fun v2 HW sW g2 => ?_⟩⟩
    rw [led_add, show (-1 : Int) + 1 = 0 by decide, led_zero] at g2
    walk_at "W"
    refine k_eqFS T g2 (JT.f.same (SV.trans sW)) fun HX sX => ?_
    have SX := SV.trans (sW.trans sX)
    walk_at "W"
    refine ⟨fh, .int (-2), rfl, .inr ⟨_, hhT.same SX, .int _, .inr ⟨-2, rfl, by decide, by decide, zu, fun v3 HY sY g3 => ?_⟩⟩⟩
    rw [led_add, show (1 : Int) + -2 = -1 by decide] at g3
    walk_at "W"
    refine k_eqFS T g3 (hwT.same (SX.trans sY)) fun HZ sZ => ?_
    have SZ := SX.trans (sY.trans sZ)
    have JZ := JT.same SZ
    clear JT hhT hwT g1 g2 g3
    walk_at "W"
    refine ⟨fl, .int 0, rfl, .inr ⟨S, JZ.f, .int _, .inr ⟨0, rfl, by decide, by decide, z0, fun v4 Ha sa g4 => ?_⟩⟩⟩
    rw [led_zero] at g4
    have Ja := JZ.same sa
    walk_at "W"
    refine k_eqFS T g4 Ja.f fun Hb sb => ?_
    have Jb := Ja.same sb
    walk_at "W"
    try refine ⟨_, rfl, ?_⟩
    walk_at "W"
    refine ⟨fl, sv, S, rfl, Jb.f, Jb.s, z0, fun Hc sc => ?_⟩
    exact q Hc
def spTop (K : PySem.W.Frag) : Sp := fun vs H Q E => ∃ (a : Addr) (ns : List Int), vs = [.ref a] ∧ SqL K H a (ns.map V.int) ∧ ∀ H', Q (.bl true) H'
theorem all_mk {P : Program} {w : World} {K : PySem.W.Frag} {h : Heap} {mg : Str → Option Value} {fa : Addr} (X : K.In h) (G : h.Ns mainGlobals mg) (hfa : mg "law" = some (.ref fa))
    {c_FloorError c_BadNumber c_BadPoint c_BadCorner c_Barred c_BadSize c_BadBounds c_BadFloor c_Root c_Floor c_Piece c_VECTORS c_ODD_PRESSES c_EVEN_PRESSES c_BARRING : Addr}
    {gAX : Addr}
{gSX : Addr}
{gMX : Addr}
{nmBadNumber qBadNumber : Str} {NBadNumber : Addr} {bsBadNumber : List Value} {snBadNumber : List Str} {subBadNumber : List Value} {abBadNumber : Bool} {colBadNumber : Option Bool} {ddBadNumber : Option Addr} {m0BadNumber m1BadNumber m2BadNumber m3BadNumber m5BadNumber : Option Value}
{nmBadPoint qBadPoint : Str} {NBadPoint : Addr} {bsBadPoint : List Value} {snBadPoint : List Str} {subBadPoint : List Value} {abBadPoint : Bool} {colBadPoint : Option Bool} {ddBadPoint : Option Addr} {m0BadPoint m1BadPoint m2BadPoint m3BadPoint m5BadPoint : Option Value}
{nmBadCorner qBadCorner : Str} {NBadCorner : Addr} {bsBadCorner : List Value} {snBadCorner : List Str} {subBadCorner : List Value} {abBadCorner : Bool} {colBadCorner : Option Bool} {ddBadCorner : Option Addr} {m0BadCorner m1BadCorner m2BadCorner m3BadCorner m5BadCorner : Option Value}
{nmBarred qBarred : Str} {NBarred : Addr} {bsBarred : List Value} {snBarred : List Str} {subBarred : List Value} {abBarred : Bool} {colBarred : Option Bool} {ddBarred : Option Addr} {m0Barred m1Barred m2Barred m3Barred m5Barred : Option Value}
{nmBadSize qBadSize : Str} {NBadSize : Addr} {bsBadSize : List Value} {snBadSize : List Str} {subBadSize : List Value} {abBadSize : Bool} {colBadSize : Option Bool} {ddBadSize : Option Addr} {m0BadSize m1BadSize m2BadSize m3BadSize m5BadSize : Option Value}
{nmBadBounds qBadBounds : Str} {NBadBounds : Addr} {bsBadBounds : List Value} {snBadBounds : List Str} {subBadBounds : List Value} {abBadBounds : Bool} {colBadBounds : Option Bool} {ddBadBounds : Option Addr} {m0BadBounds m1BadBounds m2BadBounds m3BadBounds m5BadBounds : Option Value}
{nmBadFloor qBadFloor : Str} {NBadFloor : Addr} {bsBadFloor : List Value} {snBadFloor : List Str} {subBadFloor : List Value} {abBadFloor : Bool} {colBadFloor : Option Bool} {ddBadFloor : Option Addr} {m0BadFloor m1BadFloor m2BadFloor m3BadFloor m5BadFloor : Option Value}
    {f_is_integral : Addr} {od_is_integral an_is_integral : Option Addr} {sl_is_integral : Array (Option Value)} {oc_is_integral kV_is_integral dc_is_integral pm_is_integral cd_is_integral ct_is_integral : Value}
    {f_BadPoint_init : Addr} {od_BadPoint_init an_BadPoint_init : Option Addr} {sl_BadPoint_init : Array (Option Value)} {oc_BadPoint_init kV_BadPoint_init dc_BadPoint_init pm_BadPoint_init cd_BadPoint_init ct_BadPoint_init : Value}
    {f_BadCorner_init : Addr} {od_BadCorner_init an_BadCorner_init : Option Addr} {sl_BadCorner_init : Array (Option Value)} {oc_BadCorner_init kV_BadCorner_init dc_BadCorner_init pm_BadCorner_init cd_BadCorner_init ct_BadCorner_init : Value}
    {f_Barred_init : Addr} {od_Barred_init an_Barred_init : Option Addr} {sl_Barred_init : Array (Option Value)} {oc_Barred_init kV_Barred_init dc_Barred_init pm_Barred_init cd_Barred_init ct_Barred_init : Value}
    {f_BadSize_init : Addr} {od_BadSize_init an_BadSize_init : Option Addr} {sl_BadSize_init : Array (Option Value)} {oc_BadSize_init kV_BadSize_init dc_BadSize_init pm_BadSize_init cd_BadSize_init ct_BadSize_init : Value}
    {f_BadBounds_init : Addr} {od_BadBounds_init an_BadBounds_init : Option Addr} {sl_BadBounds_init : Array (Option Value)} {oc_BadBounds_init kV_BadBounds_init dc_BadBounds_init pm_BadBounds_init cd_BadBounds_init ct_BadBounds_init : Value}
    {f_BadFloor_init : Addr} {od_BadFloor_init an_BadFloor_init : Option Addr} {sl_BadFloor_init : Array (Option Value)} {oc_BadFloor_init kV_BadFloor_init dc_BadFloor_init pm_BadFloor_init cd_BadFloor_init ct_BadFloor_init : Value}
    {f_BadNumber_init : Addr} {od_BadNumber_init an_BadNumber_init : Option Addr} {sl_BadNumber_init : Array (Option Value)} {oc_BadNumber_init kV_BadNumber_init dc_BadNumber_init pm_BadNumber_init cd_BadNumber_init ct_BadNumber_init : Value}
    {f_Root_init : Addr} {od_Root_init an_Root_init : Option Addr} {sl_Root_init : Array (Option Value)} {oc_Root_init kV_Root_init dc_Root_init pm_Root_init cd_Root_init ct_Root_init : Value}
    {f_Root_eq : Addr} {od_Root_eq an_Root_eq : Option Addr} {sl_Root_eq : Array (Option Value)} {oc_Root_eq kV_Root_eq dc_Root_eq pm_Root_eq cd_Root_eq ct_Root_eq : Value}
    {f_Root_neg : Addr} {od_Root_neg an_Root_neg : Option Addr} {sl_Root_neg : Array (Option Value)} {oc_Root_neg kV_Root_neg dc_Root_neg pm_Root_neg cd_Root_neg ct_Root_neg : Value}
    {f_is_number : Addr} {od_is_number an_is_number : Option Addr} {sl_is_number : Array (Option Value)} {oc_is_number kV_is_number dc_is_number pm_is_number cd_is_number ct_is_number : Value}
    {f_as_root : Addr} {od_as_root an_as_root : Option Addr} {sl_as_root : Array (Option Value)} {oc_as_root kV_as_root dc_as_root pm_as_root cd_as_root ct_as_root : Value}
    {f_surd_sign : Addr} {od_surd_sign an_surd_sign : Option Addr} {sl_surd_sign : Array (Option Value)} {oc_surd_sign kV_surd_sign dc_surd_sign pm_surd_sign cd_surd_sign ct_surd_sign : Value}
    {f_Root_add : Addr} {od_Root_add an_Root_add : Option Addr} {sl_Root_add : Array (Option Value)} {oc_Root_add kV_Root_add dc_Root_add pm_Root_add cd_Root_add ct_Root_add : Value}
    {f_Root_sub : Addr} {od_Root_sub an_Root_sub : Option Addr} {sl_Root_sub : Array (Option Value)} {oc_Root_sub kV_Root_sub dc_Root_sub pm_Root_sub cd_Root_sub ct_Root_sub : Value}
    {f_Root_mul : Addr} {od_Root_mul an_Root_mul : Option Addr} {sl_Root_mul : Array (Option Value)} {oc_Root_mul kV_Root_mul dc_Root_mul pm_Root_mul cd_Root_mul ct_Root_mul : Value}
    {f_Root_radd : Addr} {od_Root_radd an_Root_radd : Option Addr} {sl_Root_radd : Array (Option Value)} {oc_Root_radd kV_Root_radd dc_Root_radd pm_Root_radd cd_Root_radd ct_Root_radd : Value}
    {f_Root_rmul : Addr} {od_Root_rmul an_Root_rmul : Option Addr} {sl_Root_rmul : Array (Option Value)} {oc_Root_rmul kV_Root_rmul dc_Root_rmul pm_Root_rmul cd_Root_rmul ct_Root_rmul : Value}
    {f_Root_rsub : Addr} {od_Root_rsub an_Root_rsub : Option Addr} {sl_Root_rsub : Array (Option Value)} {oc_Root_rsub kV_Root_rsub dc_Root_rsub pm_Root_rsub cd_Root_rsub ct_Root_rsub : Value}
    {f_Root_over : Addr} {od_Root_over an_Root_over : Option Addr} {sl_Root_over : Array (Option Value)} {oc_Root_over kV_Root_over dc_Root_over pm_Root_over cd_Root_over ct_Root_over : Value}
    {f_Root_less : Addr} {od_Root_less an_Root_less : Option Addr} {sl_Root_less : Array (Option Value)} {oc_Root_less kV_Root_less dc_Root_less pm_Root_less cd_Root_less ct_Root_less : Value}
    {f_Root_sign : Addr} {od_Root_sign an_Root_sign : Option Addr} {sl_Root_sign : Array (Option Value)} {oc_Root_sign kV_Root_sign dc_Root_sign pm_Root_sign cd_Root_sign ct_Root_sign : Value}
    {f_is_corner : Addr} {od_is_corner an_is_corner : Option Addr} {sl_is_corner : Array (Option Value)} {oc_is_corner kV_is_corner dc_is_corner pm_is_corner cd_is_corner ct_is_corner : Value}
    {f_check_corner : Addr} {od_check_corner an_check_corner : Option Addr} {sl_check_corner : Array (Option Value)} {oc_check_corner kV_check_corner dc_check_corner pm_check_corner cd_check_corner ct_check_corner : Value}
    {f_step : Addr} {od_step an_step : Option Addr} {sl_step : Array (Option Value)} {oc_step kV_step dc_step pm_step cd_step ct_step : Value}
    {f_is_point : Addr} {od_is_point an_is_point : Option Addr} {sl_is_point : Array (Option Value)} {oc_is_point kV_is_point dc_is_point pm_is_point cd_is_point ct_is_point : Value}
    {f_as_roots : Addr} {od_as_roots an_as_roots : Option Addr} {sl_as_roots : Array (Option Value)} {oc_as_roots kV_as_roots dc_as_roots pm_as_roots cd_as_roots ct_as_roots : Value}
    {f_check_point : Addr} {od_check_point an_check_point : Option Addr} {sl_check_point : Array (Option Value)} {oc_check_point kV_check_point dc_check_point pm_check_point cd_check_point ct_check_point : Value}
    {f_is_half : Addr} {od_is_half an_is_half : Option Addr} {sl_is_half : Array (Option Value)} {oc_is_half kV_is_half dc_is_half pm_is_half cd_is_half ct_is_half : Value}
    {f_bars_evenly : Addr} {od_bars_evenly an_bars_evenly : Option Addr} {sl_bars_evenly : Array (Option Value)} {oc_bars_evenly kV_bars_evenly dc_bars_evenly pm_bars_evenly cd_bars_evenly ct_bars_evenly : Value}
    {f_bars_oddly : Addr} {od_bars_oddly an_bars_oddly : Option Addr} {sl_bars_oddly : Array (Option Value)} {oc_bars_oddly kV_bars_oddly dc_bars_oddly pm_bars_oddly cd_bars_oddly ct_bars_oddly : Value}
    {f_barred : Addr} {od_barred an_barred : Option Addr} {sl_barred : Array (Option Value)} {oc_barred kV_barred dc_barred pm_barred cd_barred ct_barred : Value}
    {f_gauge_of : Addr} {od_gauge_of an_gauge_of : Option Addr} {sl_gauge_of : Array (Option Value)} {oc_gauge_of kV_gauge_of dc_gauge_of pm_gauge_of cd_gauge_of ct_gauge_of : Value}
    {f_beside : Addr} {od_beside an_beside : Option Addr} {sl_beside : Array (Option Value)} {oc_beside kV_beside dc_beside pm_beside cd_beside ct_beside : Value}
    {f_in_window : Addr} {od_in_window an_in_window : Option Addr} {sl_in_window : Array (Option Value)} {oc_in_window kV_in_window dc_in_window pm_in_window cd_in_window ct_in_window : Value}
    {f_Floor_init : Addr} {od_Floor_init an_Floor_init : Option Addr} {sl_Floor_init : Array (Option Value)} {oc_Floor_init kV_Floor_init dc_Floor_init pm_Floor_init cd_Floor_init ct_Floor_init : Value}
    {f_Floor_has_corner : Addr} {od_Floor_has_corner an_Floor_has_corner : Option Addr} {sl_Floor_has_corner : Array (Option Value)} {oc_Floor_has_corner kV_Floor_has_corner dc_Floor_has_corner pm_Floor_has_corner cd_Floor_has_corner ct_Floor_has_corner : Value}
    {f_Floor_eq : Addr} {od_Floor_eq an_Floor_eq : Option Addr} {sl_Floor_eq : Array (Option Value)} {oc_Floor_eq kV_Floor_eq dc_Floor_eq pm_Floor_eq cd_Floor_eq ct_Floor_eq : Value}
    {f_is_bound : Addr} {od_is_bound an_is_bound : Option Addr} {sl_is_bound : Array (Option Value)} {oc_is_bound kV_is_bound dc_is_bound pm_is_bound cd_is_bound ct_is_bound : Value}
    {f_check_bounds : Addr} {od_check_bounds an_check_bounds : Option Addr} {sl_check_bounds : Array (Option Value)} {oc_check_bounds kV_check_bounds dc_check_bounds pm_check_bounds cd_check_bounds ct_check_bounds : Value}
    {f_toward : Addr} {od_toward an_toward : Option Addr} {sl_toward : Array (Option Value)} {oc_toward kV_toward dc_toward pm_toward cd_toward ct_toward : Value}
    {f_least_indexes : Addr} {od_least_indexes an_least_indexes : Option Addr} {sl_least_indexes : Array (Option Value)} {oc_least_indexes kV_least_indexes dc_least_indexes pm_least_indexes cd_least_indexes ct_least_indexes : Value}
    {f_least_numbers : Addr} {od_least_numbers an_least_numbers : Option Addr} {sl_least_numbers : Array (Option Value)} {oc_least_numbers kV_least_numbers dc_least_numbers pm_least_numbers cd_least_numbers ct_least_numbers : Value}
    {f_over_common : Addr} {od_over_common an_over_common : Option Addr} {sl_over_common : Array (Option Value)} {oc_over_common kV_over_common dc_over_common pm_over_common cd_over_common ct_over_common : Value}
    {f_pair_sum : Addr} {od_pair_sum an_pair_sum : Option Addr} {sl_pair_sum : Array (Option Value)} {oc_pair_sum kV_pair_sum dc_pair_sum pm_pair_sum cd_pair_sum ct_pair_sum : Value}
    {f_presses_on : Addr} {od_presses_on an_presses_on : Option Addr} {sl_presses_on : Array (Option Value)} {oc_presses_on kV_presses_on dc_presses_on pm_presses_on cd_presses_on ct_presses_on : Value}
    {f_barring_parts : Addr} {od_barring_parts an_barring_parts : Option Addr} {sl_barring_parts : Array (Option Value)} {oc_barring_parts kV_barring_parts dc_barring_parts pm_barring_parts cd_barring_parts ct_barring_parts : Value}
    {f_least_pair : Addr} {od_least_pair an_least_pair : Option Addr} {sl_least_pair : Array (Option Value)} {oc_least_pair kV_least_pair dc_least_pair pm_least_pair cd_least_pair ct_least_pair : Value}
    {f_tightened : Addr} {od_tightened an_tightened : Option Addr} {sl_tightened : Array (Option Value)} {oc_tightened kV_tightened dc_tightened pm_tightened cd_tightened ct_tightened : Value}
    {f_Piece_init : Addr} {od_Piece_init an_Piece_init : Option Addr} {sl_Piece_init : Array (Option Value)} {oc_Piece_init kV_Piece_init dc_Piece_init pm_Piece_init cd_Piece_init ct_Piece_init : Value}
    {f_Piece_is_empty : Addr} {od_Piece_is_empty an_Piece_is_empty : Option Addr} {sl_Piece_is_empty : Array (Option Value)} {oc_Piece_is_empty kV_Piece_is_empty dc_Piece_is_empty pm_Piece_is_empty cd_Piece_is_empty ct_Piece_is_empty : Value}
    {f_rows_of : Addr} {od_rows_of an_rows_of : Option Addr} {sl_rows_of : Array (Option Value)} {oc_rows_of kV_rows_of dc_rows_of pm_rows_of cd_rows_of ct_rows_of : Value}
    {f_Piece_has : Addr} {od_Piece_has an_Piece_has : Option Addr} {sl_Piece_has : Array (Option Value)} {oc_Piece_has kV_Piece_has dc_Piece_has pm_Piece_has cd_Piece_has ct_Piece_has : Value}
    {f__law_dice : Addr} {od__law_dice an__law_dice : Option Addr} {sl__law_dice : Array (Option Value)} {oc__law_dice kV__law_dice dc__law_dice pm__law_dice cd__law_dice ct__law_dice : Value}
    {f__law_draw : Addr} {od__law_draw an__law_draw : Option Addr} {sl__law_draw : Array (Option Value)} {oc__law_draw kV__law_draw dc__law_draw pm__law_draw cd__law_draw ct__law_draw : Value}
    {f__law_wide : Addr} {od__law_wide an__law_wide : Option Addr} {sl__law_wide : Array (Option Value)} {oc__law_wide kV__law_wide dc__law_wide pm__law_wide cd__law_wide ct__law_wide : Value}
    {f_check_floor : Addr} {od_check_floor an_check_floor : Option Addr} {sl_check_floor : Array (Option Value)} {oc_check_floor kV_check_floor dc_check_floor pm_check_floor cd_check_floor ct_check_floor : Value}
    {f_check_many : Addr} {od_check_many an_check_many : Option Addr} {sl_check_many : Array (Option Value)} {oc_check_many kV_check_many dc_check_many pm_check_many cd_check_many ct_check_many : Value}
    {f_factor : Addr} {od_factor an_factor : Option Addr} {sl_factor : Array (Option Value)} {oc_factor kV_factor dc_factor pm_factor cd_factor ct_factor : Value}
    {f_scaled : Addr} {od_scaled an_scaled : Option Addr} {sl_scaled : Array (Option Value)} {oc_scaled kV_scaled dc_scaled pm_scaled cd_scaled ct_scaled : Value}
    {f_led : Addr} {od_led an_led : Option Addr} {sl_led : Array (Option Value)} {oc_led kV_led dc_led pm_led cd_led ct_led : Value}
    {f_greater_floor : Addr} {od_greater_floor an_greater_floor : Option Addr} {sl_greater_floor : Array (Option Value)} {oc_greater_floor kV_greater_floor dc_greater_floor pm_greater_floor cd_greater_floor ct_greater_floor : Value}
    {f_lesser_floor : Addr} {od_lesser_floor an_lesser_floor : Option Addr} {sl_lesser_floor : Array (Option Value)} {oc_lesser_floor kV_lesser_floor dc_lesser_floor pm_lesser_floor cd_lesser_floor ct_lesser_floor : Value}
    {f_led_up : Addr} {od_led_up an_led_up : Option Addr} {sl_led_up : Array (Option Value)} {oc_led_up kV_led_up dc_led_up pm_led_up cd_led_up ct_led_up : Value}
    {f__law_is_half : Addr} {od__law_is_half an__law_is_half : Option Addr} {sl__law_is_half : Array (Option Value)} {oc__law_is_half kV__law_is_half dc__law_is_half pm__law_is_half cd__law_is_half ct__law_is_half : Value}
    {f__law_is_let : Addr} {od__law_is_let an__law_is_let : Option Addr} {sl__law_is_let : Array (Option Value)} {oc__law_is_let kV__law_is_let dc__law_is_let pm__law_is_let cd__law_is_let ct__law_is_let : Value}
    {f__law_let : Addr} {od__law_let an__law_let : Option Addr} {sl__law_let : Array (Option Value)} {oc__law_let kV__law_let dc__law_let pm__law_let cd__law_let ct__law_let : Value}
    {f__law_shift : Addr} {od__law_shift an__law_shift : Option Addr} {sl__law_shift : Array (Option Value)} {oc__law_shift kV__law_shift dc__law_shift pm__law_shift cd__law_shift ct__law_shift : Value}
    {f__law_led : Addr} {od__law_led an__law_led : Option Addr} {sl__law_led : Array (Option Value)} {oc__law_led kV__law_led dc__law_led pm__law_led cd__law_led ct__law_led : Value}
    {f__law_number : Addr} {od__law_number an__law_number : Option Addr} {sl__law_number : Array (Option Value)} {oc__law_number kV__law_number dc__law_number pm__law_number cd__law_number ct__law_number : Value}
    {f__law_point : Addr} {od__law_point an__law_point : Option Addr} {sl__law_point : Array (Option Value)} {oc__law_point kV__law_point dc__law_point pm__law_point cd__law_point ct__law_point : Value}
    {f__law_is_integer : Addr} {od__law_is_integer an__law_is_integer : Option Addr} {sl__law_is_integer : Array (Option Value)} {oc__law_is_integer kV__law_is_integer dc__law_is_integer pm__law_is_integer cd__law_is_integer ct__law_is_integer : Value}
    {f__law_is_root : Addr} {od__law_is_root an__law_is_root : Option Addr} {sl__law_is_root : Array (Option Value)} {oc__law_is_root kV__law_is_root dc__law_is_root pm__law_is_root cd__law_is_root ct__law_is_root : Value}
    {f__law_is_floor : Addr} {od__law_is_floor an__law_is_floor : Option Addr} {sl__law_is_floor : Array (Option Value)} {oc__law_is_floor kV__law_is_floor dc__law_is_floor pm__law_is_floor cd__law_is_floor ct__law_is_floor : Value}
    {f_Piece_eq : Addr} {od_Piece_eq an_Piece_eq : Option Addr} {sl_Piece_eq : Array (Option Value)} {oc_Piece_eq kV_Piece_eq dc_Piece_eq pm_Piece_eq cd_Piece_eq ct_Piece_eq : Value}
    {f__law_no_floor : Addr} {od__law_no_floor an__law_no_floor : Option Addr} {sl__law_no_floor : Array (Option Value)} {oc__law_no_floor kV__law_no_floor dc__law_no_floor pm__law_no_floor cd__law_no_floor ct__law_no_floor : Value}
    {f__law_no_size : Addr} {od__law_no_size an__law_no_size : Option Addr} {sl__law_no_size : Array (Option Value)} {oc__law_no_size kV__law_no_size dc__law_no_size pm__law_no_size cd__law_no_size ct__law_no_size : Value}
    {f__law_told : Addr} {od__law_told an__law_told : Option Addr} {sl__law_told : Array (Option Value)} {oc__law_told kV__law_told dc__law_told pm__law_told cd__law_told ct__law_told : Value}
    {f__law_both_refused : Addr} {od__law_both_refused an__law_both_refused : Option Addr} {sl__law_both_refused : Array (Option Value)} {oc__law_both_refused kV__law_both_refused dc__law_both_refused pm__law_both_refused cd__law_both_refused ct__law_both_refused : Value}
    {f__law_refusals : Addr} {od__law_refusals an__law_refusals : Option Addr} {sl__law_refusals : Array (Option Value)} {oc__law_refusals kV__law_refusals dc__law_refusals pm__law_refusals cd__law_refusals ct__law_refusals : Value}
    {f_law : Addr} {od_law an_law : Option Addr} {sl_law : Array (Option Value)} {oc_law kV_law dc_law pm_law cd_law ct_law : Value}
    (gi_MOST_BOUNDS : isIntV (PySem.W.nsIn K mainGlobals "MOST_BOUNDS") 400 = true)
    (gi_MOST_LED : isIntV (PySem.W.nsIn K mainGlobals "MOST_LED") 40 = true)
    (r_VECTORS : PySem.W.nsIn K mainGlobals "VECTORS" = some (some (.ref c_VECTORS)))
    (r_ODD_PRESSES : PySem.W.nsIn K mainGlobals "ODD_PRESSES" = some (some (.ref c_ODD_PRESSES)))
    (r_EVEN_PRESSES : PySem.W.nsIn K mainGlobals "EVEN_PRESSES" = some (some (.ref c_EVEN_PRESSES)))
    (r_BARRING : PySem.W.nsIn K mainGlobals "BARRING" = some (some (.ref c_BARRING)))
    (kd_VECTORS : kdB K 8 (.ref c_VECTORS) (.tuple [.tuple [.int 1, .int 0], .tuple [.int 1, .int 1], .tuple [.int 0, .int 1], .tuple [.int (-1), .int 1], .tuple [.int (-1), .int 0], .tuple [.int (-1), .int (-1)], .tuple [.int 0, .int (-1)], .tuple [.int 1, .int (-1)]]) = true)
    (kd_ODD_PRESSES : kdB K 8 (.ref c_ODD_PRESSES) (.tuple [.tuple [.int 1, .tuple [.tuple [.int 1, .int 1]]], .tuple [.int 1, .tuple [.tuple [.int 0, .int 1], .tuple [.int 2, .int 1]]], .tuple [.int 1, .tuple [.tuple [.int 0, .int 2], .tuple [.int 3, .int 1]]], .tuple [.int 1, .tuple [.tuple [.int 2, .int 2], .tuple [.int 7, .int 1]]]]) = true)
    (kd_EVEN_PRESSES : kdB K 8 (.ref c_EVEN_PRESSES) (.tuple [.tuple [.int 1, .tuple [.tuple [.int 0, .int 1]]], .tuple [.int 2, .tuple [.tuple [.int 1, .int 1], .tuple [.int 7, .int 1]]], .tuple [.int 1, .tuple [.tuple [.int 2, .int 1], .tuple [.int 7, .int 1]]], .tuple [.int 1, .tuple [.tuple [.int 1, .int 1], .tuple [.int 6, .int 1]]]]) = true)
    (kd_BARRING : kdB K 8 (.ref c_BARRING) (.tuple [.tuple [.tuple [.int 0, .int 1], .tuple [.int 4, .int 1]], .tuple [.tuple [.int 1, .int 1], .tuple [.int 5, .int 1]], .tuple [.tuple [.int 2, .int 1], .tuple [.int 6, .int 1]], .tuple [.tuple [.int 3, .int 1], .tuple [.int 7, .int 1]], .tuple [.tuple [.int 0, .int 1], .tuple [.int 3, .int 1], .tuple [.int 6, .int 1]], .tuple [.tuple [.int 1, .int 1], .tuple [.int 4, .int 2], .tuple [.int 7, .int 1]], .tuple [.tuple [.int 0, .int 1], .tuple [.int 2, .int 1], .tuple [.int 5, .int 1]], .tuple [.tuple [.int 1, .int 1], .tuple [.int 3, .int 1], .tuple [.int 6, .int 2]], .tuple [.tuple [.int 2, .int 1], .tuple [.int 4, .int 1], .tuple [.int 7, .int 1]], .tuple [.tuple [.int 0, .int 2], .tuple [.int 3, .int 1], .tuple [.int 5, .int 1]], .tuple [.tuple [.int 1, .int 1], .tuple [.int 4, .int 1], .tuple [.int 6, .int 1]], .tuple [.tuple [.int 2, .int 2], .tuple [.int 5, .int 1], .tuple [.int 7, .int 1]]]) = true)
    (r_FloorError : PySem.W.nsIn K mainGlobals "FloorError" = some (some (.ref c_FloorError)))
    (r_BadNumber : PySem.W.nsIn K mainGlobals "BadNumber" = some (some (.ref c_BadNumber)))
    (r_BadPoint : PySem.W.nsIn K mainGlobals "BadPoint" = some (some (.ref c_BadPoint)))
    (r_BadCorner : PySem.W.nsIn K mainGlobals "BadCorner" = some (some (.ref c_BadCorner)))
    (r_Barred : PySem.W.nsIn K mainGlobals "Barred" = some (some (.ref c_Barred)))
    (r_BadSize : PySem.W.nsIn K mainGlobals "BadSize" = some (some (.ref c_BadSize)))
    (r_BadBounds : PySem.W.nsIn K mainGlobals "BadBounds" = some (some (.ref c_BadBounds)))
    (r_BadFloor : PySem.W.nsIn K mainGlobals "BadFloor" = some (some (.ref c_BadFloor)))
    (r_Root : PySem.W.nsIn K mainGlobals "Root" = some (some (.ref c_Root)))
    (r_Floor : PySem.W.nsIn K mainGlobals "Floor" = some (some (.ref c_Floor)))
    (r_Piece : PySem.W.nsIn K mainGlobals "Piece" = some (some (.ref c_Piece)))
    (r_gcd : PySem.W.nsIn K mainGlobals "gcd" = some (some (.builtin "math.gcd")))
    (r_lcm : PySem.W.nsIn K mainGlobals "lcm" = some (some (.builtin "math.lcm")))
    (r_isinstance : PySem.W.nsIn K mainGlobals "isinstance" = some none)
    (r_all : PySem.W.nsIn K mainGlobals "all" = some none)
    (r_len : PySem.W.nsIn K mainGlobals "len" = some none)
    (r_tuple : PySem.W.nsIn K mainGlobals "tuple" = some none)
    (r_list : PySem.W.nsIn K mainGlobals "list" = some none)
    (r_range : PySem.W.nsIn K mainGlobals "range" = some none)
    (r_enumerate : PySem.W.nsIn K mainGlobals "enumerate" = some none)
    (r_int : PySem.W.nsIn K mainGlobals "int" = some none)
    (r_abs : PySem.W.nsIn K mainGlobals "abs" = some none)
    (r_bool : PySem.W.nsIn K mainGlobals "bool" = some none)
    (r_ValueError : PySem.W.nsIn K mainGlobals "ValueError" = some none)
    (r_pg : PySem.W.plainGet K c_Root Str.empty = true)
    (r_hd : PySem.W.hasDictIn K c_Root = true)
    (r_po : PySem.W.plainOver K c_Root = true)
    (r_sa : PySem.W.findIn K (.ref c_Root) "__setattr__" = some (some (.builtin "object.__setattr__")))
    (r_ca : PySem.W.findIn K (.ref c_Root) "__class__" = some (some (.builtin "object.__class__")))
    (r_hm : PySem.W.mroIn K c_Root (.type "object") = some true)
    (r_ic : PySem.W.isClsIn K c_Root = true)
    (r_tc : PySem.W.typeIn K (.ref c_Root) = some (.type "type"))
    (r_s1 : PySem.W.mroIn K c_Root (.type "int") = some false)
    (r_s2 : PySem.W.mroIn K c_Root (.type "bool") = some false)
    (r_nt : PySem.W.findIn K (.ref c_Root) "top" = some none)
    (r_nr : PySem.W.findIn K (.ref c_Root) "root" = some none)
    (r_nb : PySem.W.findIn K (.ref c_Root) "bottom" = some none)
    (r_sf : PySem.W.selfFirst K c_Root = true)
    (r_ra : PySem.W.findIn K (.ref c_Root) "__radd__" = some (some (.ref gAX)))
    (r_rs : PySem.W.findIn K (.ref c_Root) "__rsub__" = some (some (.ref gSX)))
    (r_rm : PySem.W.findIn K (.ref c_Root) "__rmul__" = some (some (.ref gMX)))
    (o_pg_Floor : PySem.W.plainGet K c_Floor Str.empty = true)
    (o_hd_Floor : PySem.W.hasDictIn K c_Floor = true)
    (o_po_Floor : PySem.W.plainOver K c_Floor = true)
    (o_sa_Floor : PySem.W.findIn K (.ref c_Floor) "__setattr__" = some (some (.builtin "object.__setattr__")))
    (o_ca_Floor : PySem.W.findIn K (.ref c_Floor) "__class__" = some (some (.builtin "object.__class__")))
    (o_hm_Floor : PySem.W.mroIn K c_Floor (.type "object") = some true)
    (o_ic_Floor : PySem.W.isClsIn K c_Floor = true)
    (o_tc_Floor : PySem.W.typeIn K (.ref c_Floor) = some (.type "type"))
    (o_s1_Floor : PySem.W.mroIn K c_Floor (.type "int") = some false)
    (o_s2_Floor : PySem.W.mroIn K c_Floor (.type "bool") = some false)
    (o_nf_Floor_shift : PySem.W.findIn K (.ref c_Floor) "shift" = some none)
    (o_nf_Floor__gauge : PySem.W.findIn K (.ref c_Floor) "_gauge" = some none)
    (o_pg_Piece : PySem.W.plainGet K c_Piece Str.empty = true)
    (o_hd_Piece : PySem.W.hasDictIn K c_Piece = true)
    (o_po_Piece : PySem.W.plainOver K c_Piece = true)
    (o_sa_Piece : PySem.W.findIn K (.ref c_Piece) "__setattr__" = some (some (.builtin "object.__setattr__")))
    (o_ca_Piece : PySem.W.findIn K (.ref c_Piece) "__class__" = some (some (.builtin "object.__class__")))
    (o_hm_Piece : PySem.W.mroIn K c_Piece (.type "object") = some true)
    (o_ic_Piece : PySem.W.isClsIn K c_Piece = true)
    (o_tc_Piece : PySem.W.typeIn K (.ref c_Piece) = some (.type "type"))
    (o_s1_Piece : PySem.W.mroIn K c_Piece (.type "int") = some false)
    (o_s2_Piece : PySem.W.mroIn K c_Piece (.type "bool") = some false)
    (o_nf_Piece_bounds : PySem.W.findIn K (.ref c_Piece) "bounds" = some none)
    (o_ms_Floor : PySem.W.mroIn K c_Floor (.ref c_Floor) = some true)
    (o_no_Root_Floor : PySem.W.mroIn K c_Root (.ref c_Floor) = some false)
    (o_no_Piece_Floor : PySem.W.mroIn K c_Piece (.ref c_Floor) = some false)
    (e_L_BadNumber : K.lookup c_BadNumber = some (excClassObj nmBadNumber qBadNumber c_BadNumber NBadNumber bsBadNumber [.ref c_FloorError, .type "ValueError", .type "Exception", .type "BaseException", .type "object"] true snBadNumber subBadNumber abBadNumber colBadNumber ddBadNumber m0BadNumber m1BadNumber m2BadNumber m3BadNumber m5BadNumber "ValueError.__new__"))
    (e_sa_BadNumber : PySem.W.findIn K (.ref c_BadNumber) "__setattr__" = some (some (.builtin "object.__setattr__")))
    (e_e_BadNumber : PySem.W.mroIn K c_BadNumber (.type "BaseException") = some true)
    (e_t_BadNumber : PySem.W.typeIn K (.ref c_BadNumber) = some (.type "type"))
    (e_k_BadNumber : PySem.W.keepIn K (.ref c_BadNumber) = true)
    (e_n_BadNumber : PySem.W.findIn K (.ref c_BadNumber) "value" = some none)
    (e_ga_BadNumber : PySem.W.findIn K (.ref c_BadNumber) "__getattribute__" = some (some (.builtin "BaseException.__getattribute__")))
    (e_gg_BadNumber : PySem.W.findIn K (.ref c_BadNumber) "__getattr__" = some none)
    (e_hd_BadNumber : PySem.W.hasDictIn K c_BadNumber = true)
    (e_ic_BadNumber : PySem.W.isClsIn K c_BadNumber = true)
    (e_s_BadNumber : PySem.W.mroIn K c_BadNumber (.ref c_BadNumber) = some true)
    (e_ca_BadNumber : PySem.W.findIn K (.ref c_BadNumber) "__class__" = some (some (.builtin "object.__class__")))
    (e_hm_BadNumber : PySem.W.mroIn K c_BadNumber (.type "object") = some true)
    (e_L_BadPoint : K.lookup c_BadPoint = some (excClassObj nmBadPoint qBadPoint c_BadPoint NBadPoint bsBadPoint [.ref c_FloorError, .type "ValueError", .type "Exception", .type "BaseException", .type "object"] true snBadPoint subBadPoint abBadPoint colBadPoint ddBadPoint m0BadPoint m1BadPoint m2BadPoint m3BadPoint m5BadPoint "ValueError.__new__"))
    (e_sa_BadPoint : PySem.W.findIn K (.ref c_BadPoint) "__setattr__" = some (some (.builtin "object.__setattr__")))
    (e_e_BadPoint : PySem.W.mroIn K c_BadPoint (.type "BaseException") = some true)
    (e_t_BadPoint : PySem.W.typeIn K (.ref c_BadPoint) = some (.type "type"))
    (e_k_BadPoint : PySem.W.keepIn K (.ref c_BadPoint) = true)
    (e_n_BadPoint : PySem.W.findIn K (.ref c_BadPoint) "point" = some none)
    (e_ga_BadPoint : PySem.W.findIn K (.ref c_BadPoint) "__getattribute__" = some (some (.builtin "BaseException.__getattribute__")))
    (e_gg_BadPoint : PySem.W.findIn K (.ref c_BadPoint) "__getattr__" = some none)
    (e_hd_BadPoint : PySem.W.hasDictIn K c_BadPoint = true)
    (e_ic_BadPoint : PySem.W.isClsIn K c_BadPoint = true)
    (e_s_BadPoint : PySem.W.mroIn K c_BadPoint (.ref c_BadPoint) = some true)
    (e_ca_BadPoint : PySem.W.findIn K (.ref c_BadPoint) "__class__" = some (some (.builtin "object.__class__")))
    (e_hm_BadPoint : PySem.W.mroIn K c_BadPoint (.type "object") = some true)
    (e_L_BadCorner : K.lookup c_BadCorner = some (excClassObj nmBadCorner qBadCorner c_BadCorner NBadCorner bsBadCorner [.ref c_FloorError, .type "ValueError", .type "Exception", .type "BaseException", .type "object"] true snBadCorner subBadCorner abBadCorner colBadCorner ddBadCorner m0BadCorner m1BadCorner m2BadCorner m3BadCorner m5BadCorner "ValueError.__new__"))
    (e_sa_BadCorner : PySem.W.findIn K (.ref c_BadCorner) "__setattr__" = some (some (.builtin "object.__setattr__")))
    (e_e_BadCorner : PySem.W.mroIn K c_BadCorner (.type "BaseException") = some true)
    (e_t_BadCorner : PySem.W.typeIn K (.ref c_BadCorner) = some (.type "type"))
    (e_k_BadCorner : PySem.W.keepIn K (.ref c_BadCorner) = true)
    (e_n_BadCorner : PySem.W.findIn K (.ref c_BadCorner) "corner" = some none)
    (e_ga_BadCorner : PySem.W.findIn K (.ref c_BadCorner) "__getattribute__" = some (some (.builtin "BaseException.__getattribute__")))
    (e_gg_BadCorner : PySem.W.findIn K (.ref c_BadCorner) "__getattr__" = some none)
    (e_hd_BadCorner : PySem.W.hasDictIn K c_BadCorner = true)
    (e_ic_BadCorner : PySem.W.isClsIn K c_BadCorner = true)
    (e_s_BadCorner : PySem.W.mroIn K c_BadCorner (.ref c_BadCorner) = some true)
    (e_ca_BadCorner : PySem.W.findIn K (.ref c_BadCorner) "__class__" = some (some (.builtin "object.__class__")))
    (e_hm_BadCorner : PySem.W.mroIn K c_BadCorner (.type "object") = some true)
    (e_L_Barred : K.lookup c_Barred = some (excClassObj nmBarred qBarred c_Barred NBarred bsBarred [.ref c_FloorError, .type "ValueError", .type "Exception", .type "BaseException", .type "object"] true snBarred subBarred abBarred colBarred ddBarred m0Barred m1Barred m2Barred m3Barred m5Barred "ValueError.__new__"))
    (e_sa_Barred : PySem.W.findIn K (.ref c_Barred) "__setattr__" = some (some (.builtin "object.__setattr__")))
    (e_e_Barred : PySem.W.mroIn K c_Barred (.type "BaseException") = some true)
    (e_t_Barred : PySem.W.typeIn K (.ref c_Barred) = some (.type "type"))
    (e_k_Barred : PySem.W.keepIn K (.ref c_Barred) = true)
    (e_n_Barred : PySem.W.findIn K (.ref c_Barred) "direction" = some none)
    (e_ga_Barred : PySem.W.findIn K (.ref c_Barred) "__getattribute__" = some (some (.builtin "BaseException.__getattribute__")))
    (e_gg_Barred : PySem.W.findIn K (.ref c_Barred) "__getattr__" = some none)
    (e_hd_Barred : PySem.W.hasDictIn K c_Barred = true)
    (e_ic_Barred : PySem.W.isClsIn K c_Barred = true)
    (e_s_Barred : PySem.W.mroIn K c_Barred (.ref c_Barred) = some true)
    (e_ca_Barred : PySem.W.findIn K (.ref c_Barred) "__class__" = some (some (.builtin "object.__class__")))
    (e_hm_Barred : PySem.W.mroIn K c_Barred (.type "object") = some true)
    (e_L_BadSize : K.lookup c_BadSize = some (excClassObj nmBadSize qBadSize c_BadSize NBadSize bsBadSize [.ref c_FloorError, .type "ValueError", .type "Exception", .type "BaseException", .type "object"] true snBadSize subBadSize abBadSize colBadSize ddBadSize m0BadSize m1BadSize m2BadSize m3BadSize m5BadSize "ValueError.__new__"))
    (e_sa_BadSize : PySem.W.findIn K (.ref c_BadSize) "__setattr__" = some (some (.builtin "object.__setattr__")))
    (e_e_BadSize : PySem.W.mroIn K c_BadSize (.type "BaseException") = some true)
    (e_t_BadSize : PySem.W.typeIn K (.ref c_BadSize) = some (.type "type"))
    (e_k_BadSize : PySem.W.keepIn K (.ref c_BadSize) = true)
    (e_n_BadSize : PySem.W.findIn K (.ref c_BadSize) "size" = some none)
    (e_ga_BadSize : PySem.W.findIn K (.ref c_BadSize) "__getattribute__" = some (some (.builtin "BaseException.__getattribute__")))
    (e_gg_BadSize : PySem.W.findIn K (.ref c_BadSize) "__getattr__" = some none)
    (e_hd_BadSize : PySem.W.hasDictIn K c_BadSize = true)
    (e_ic_BadSize : PySem.W.isClsIn K c_BadSize = true)
    (e_s_BadSize : PySem.W.mroIn K c_BadSize (.ref c_BadSize) = some true)
    (e_ca_BadSize : PySem.W.findIn K (.ref c_BadSize) "__class__" = some (some (.builtin "object.__class__")))
    (e_hm_BadSize : PySem.W.mroIn K c_BadSize (.type "object") = some true)
    (e_L_BadBounds : K.lookup c_BadBounds = some (excClassObj nmBadBounds qBadBounds c_BadBounds NBadBounds bsBadBounds [.ref c_FloorError, .type "ValueError", .type "Exception", .type "BaseException", .type "object"] true snBadBounds subBadBounds abBadBounds colBadBounds ddBadBounds m0BadBounds m1BadBounds m2BadBounds m3BadBounds m5BadBounds "ValueError.__new__"))
    (e_sa_BadBounds : PySem.W.findIn K (.ref c_BadBounds) "__setattr__" = some (some (.builtin "object.__setattr__")))
    (e_e_BadBounds : PySem.W.mroIn K c_BadBounds (.type "BaseException") = some true)
    (e_t_BadBounds : PySem.W.typeIn K (.ref c_BadBounds) = some (.type "type"))
    (e_k_BadBounds : PySem.W.keepIn K (.ref c_BadBounds) = true)
    (e_n_BadBounds : PySem.W.findIn K (.ref c_BadBounds) "index" = some none)
    (e_ga_BadBounds : PySem.W.findIn K (.ref c_BadBounds) "__getattribute__" = some (some (.builtin "BaseException.__getattribute__")))
    (e_gg_BadBounds : PySem.W.findIn K (.ref c_BadBounds) "__getattr__" = some none)
    (e_hd_BadBounds : PySem.W.hasDictIn K c_BadBounds = true)
    (e_ic_BadBounds : PySem.W.isClsIn K c_BadBounds = true)
    (e_s_BadBounds : PySem.W.mroIn K c_BadBounds (.ref c_BadBounds) = some true)
    (e_ca_BadBounds : PySem.W.findIn K (.ref c_BadBounds) "__class__" = some (some (.builtin "object.__class__")))
    (e_hm_BadBounds : PySem.W.mroIn K c_BadBounds (.type "object") = some true)
    (e_L_BadFloor : K.lookup c_BadFloor = some (excClassObj nmBadFloor qBadFloor c_BadFloor NBadFloor bsBadFloor [.ref c_FloorError, .type "ValueError", .type "Exception", .type "BaseException", .type "object"] true snBadFloor subBadFloor abBadFloor colBadFloor ddBadFloor m0BadFloor m1BadFloor m2BadFloor m3BadFloor m5BadFloor "ValueError.__new__"))
    (e_sa_BadFloor : PySem.W.findIn K (.ref c_BadFloor) "__setattr__" = some (some (.builtin "object.__setattr__")))
    (e_e_BadFloor : PySem.W.mroIn K c_BadFloor (.type "BaseException") = some true)
    (e_t_BadFloor : PySem.W.typeIn K (.ref c_BadFloor) = some (.type "type"))
    (e_k_BadFloor : PySem.W.keepIn K (.ref c_BadFloor) = true)
    (e_n_BadFloor : PySem.W.findIn K (.ref c_BadFloor) "floor" = some none)
    (e_ga_BadFloor : PySem.W.findIn K (.ref c_BadFloor) "__getattribute__" = some (some (.builtin "BaseException.__getattribute__")))
    (e_gg_BadFloor : PySem.W.findIn K (.ref c_BadFloor) "__getattr__" = some none)
    (e_hd_BadFloor : PySem.W.hasDictIn K c_BadFloor = true)
    (e_ic_BadFloor : PySem.W.isClsIn K c_BadFloor = true)
    (e_s_BadFloor : PySem.W.mroIn K c_BadFloor (.ref c_BadFloor) = some true)
    (e_ca_BadFloor : PySem.W.findIn K (.ref c_BadFloor) "__class__" = some (some (.builtin "object.__class__")))
    (e_hm_BadFloor : PySem.W.mroIn K c_BadFloor (.type "object") = some true)
    (e_o_BadSize_BadFloor : PySem.W.mroIn K c_BadSize (.ref c_BadFloor) = some false)
    (e_o_BadFloor_BadSize : PySem.W.mroIn K c_BadFloor (.ref c_BadSize) = some false)
    (b_ic : PySem.W.isClsIn K c_FloorError = true)
    (b_tc : PySem.W.typeIn K (.ref c_FloorError) = some (.type "type"))
    (e_b_BadSize : PySem.W.mroIn K c_BadSize (.ref c_FloorError) = some true)
    (e_v_BadSize : PySem.W.mroIn K c_BadSize (.type "ValueError") = some true)
    (e_b_BadFloor : PySem.W.mroIn K c_BadFloor (.ref c_FloorError) = some true)
    (a_is_integral : PySem.W.nsIn K mainGlobals "is_integral" = some (some (.ref f_is_integral)))
    (l_is_integral : K.lookup f_is_integral = some ⟨oc_is_integral, od_is_integral, .func (PySem.W.fnOf "is_integral" "is_integral" (defArgs s_is_integral) (defBody s_is_integral) (defScope s_is_integral) .none kV_is_integral dc_is_integral pm_is_integral an_is_integral cd_is_integral ct_is_integral), sl_is_integral⟩)
    (d_is_integral : PySem.W.codeIn K cd_is_integral "is_integral" = true)
    (k_is_integral : PySem.W.keepIn K (.ref f_is_integral) = true)
    (a_BadPoint_init : PySem.W.findIn K (.ref c_BadPoint) "__init__" = some (some (.ref f_BadPoint_init)))
    (t_BadPoint_init : PySem.W.typeIn K (.ref f_BadPoint_init) = some (.type "function"))
    (l_BadPoint_init : K.lookup f_BadPoint_init = some ⟨oc_BadPoint_init, od_BadPoint_init, .func (PySem.W.fnOf "__init__" "BadPoint.__init__" (defArgs s_BadPoint_init) (defBody s_BadPoint_init) (defScope s_BadPoint_init) .none kV_BadPoint_init dc_BadPoint_init pm_BadPoint_init an_BadPoint_init cd_BadPoint_init ct_BadPoint_init), sl_BadPoint_init⟩)
    (d_BadPoint_init : PySem.W.codeIn K cd_BadPoint_init "BadPoint.__init__" = true)
    (k_BadPoint_init : PySem.W.keepIn K (.ref f_BadPoint_init) = true)
    (a_BadCorner_init : PySem.W.findIn K (.ref c_BadCorner) "__init__" = some (some (.ref f_BadCorner_init)))
    (t_BadCorner_init : PySem.W.typeIn K (.ref f_BadCorner_init) = some (.type "function"))
    (l_BadCorner_init : K.lookup f_BadCorner_init = some ⟨oc_BadCorner_init, od_BadCorner_init, .func (PySem.W.fnOf "__init__" "BadCorner.__init__" (defArgs s_BadCorner_init) (defBody s_BadCorner_init) (defScope s_BadCorner_init) .none kV_BadCorner_init dc_BadCorner_init pm_BadCorner_init an_BadCorner_init cd_BadCorner_init ct_BadCorner_init), sl_BadCorner_init⟩)
    (d_BadCorner_init : PySem.W.codeIn K cd_BadCorner_init "BadCorner.__init__" = true)
    (k_BadCorner_init : PySem.W.keepIn K (.ref f_BadCorner_init) = true)
    (a_Barred_init : PySem.W.findIn K (.ref c_Barred) "__init__" = some (some (.ref f_Barred_init)))
    (t_Barred_init : PySem.W.typeIn K (.ref f_Barred_init) = some (.type "function"))
    (l_Barred_init : K.lookup f_Barred_init = some ⟨oc_Barred_init, od_Barred_init, .func (PySem.W.fnOf "__init__" "Barred.__init__" (defArgs s_Barred_init) (defBody s_Barred_init) (defScope s_Barred_init) .none kV_Barred_init dc_Barred_init pm_Barred_init an_Barred_init cd_Barred_init ct_Barred_init), sl_Barred_init⟩)
    (d_Barred_init : PySem.W.codeIn K cd_Barred_init "Barred.__init__" = true)
    (k_Barred_init : PySem.W.keepIn K (.ref f_Barred_init) = true)
    (a_BadSize_init : PySem.W.findIn K (.ref c_BadSize) "__init__" = some (some (.ref f_BadSize_init)))
    (t_BadSize_init : PySem.W.typeIn K (.ref f_BadSize_init) = some (.type "function"))
    (l_BadSize_init : K.lookup f_BadSize_init = some ⟨oc_BadSize_init, od_BadSize_init, .func (PySem.W.fnOf "__init__" "BadSize.__init__" (defArgs s_BadSize_init) (defBody s_BadSize_init) (defScope s_BadSize_init) .none kV_BadSize_init dc_BadSize_init pm_BadSize_init an_BadSize_init cd_BadSize_init ct_BadSize_init), sl_BadSize_init⟩)
    (d_BadSize_init : PySem.W.codeIn K cd_BadSize_init "BadSize.__init__" = true)
    (k_BadSize_init : PySem.W.keepIn K (.ref f_BadSize_init) = true)
    (a_BadBounds_init : PySem.W.findIn K (.ref c_BadBounds) "__init__" = some (some (.ref f_BadBounds_init)))
    (t_BadBounds_init : PySem.W.typeIn K (.ref f_BadBounds_init) = some (.type "function"))
    (l_BadBounds_init : K.lookup f_BadBounds_init = some ⟨oc_BadBounds_init, od_BadBounds_init, .func (PySem.W.fnOf "__init__" "BadBounds.__init__" (defArgs s_BadBounds_init) (defBody s_BadBounds_init) (defScope s_BadBounds_init) .none kV_BadBounds_init dc_BadBounds_init pm_BadBounds_init an_BadBounds_init cd_BadBounds_init ct_BadBounds_init), sl_BadBounds_init⟩)
    (d_BadBounds_init : PySem.W.codeIn K cd_BadBounds_init "BadBounds.__init__" = true)
    (k_BadBounds_init : PySem.W.keepIn K (.ref f_BadBounds_init) = true)
    (a_BadFloor_init : PySem.W.findIn K (.ref c_BadFloor) "__init__" = some (some (.ref f_BadFloor_init)))
    (t_BadFloor_init : PySem.W.typeIn K (.ref f_BadFloor_init) = some (.type "function"))
    (l_BadFloor_init : K.lookup f_BadFloor_init = some ⟨oc_BadFloor_init, od_BadFloor_init, .func (PySem.W.fnOf "__init__" "BadFloor.__init__" (defArgs s_BadFloor_init) (defBody s_BadFloor_init) (defScope s_BadFloor_init) .none kV_BadFloor_init dc_BadFloor_init pm_BadFloor_init an_BadFloor_init cd_BadFloor_init ct_BadFloor_init), sl_BadFloor_init⟩)
    (d_BadFloor_init : PySem.W.codeIn K cd_BadFloor_init "BadFloor.__init__" = true)
    (k_BadFloor_init : PySem.W.keepIn K (.ref f_BadFloor_init) = true)
    (a_BadNumber_init : PySem.W.findIn K (.ref c_BadNumber) "__init__" = some (some (.ref f_BadNumber_init)))
    (t_BadNumber_init : PySem.W.typeIn K (.ref f_BadNumber_init) = some (.type "function"))
    (l_BadNumber_init : K.lookup f_BadNumber_init = some ⟨oc_BadNumber_init, od_BadNumber_init, .func (PySem.W.fnOf "__init__" "BadNumber.__init__" (defArgs s_BadNumber_init) (defBody s_BadNumber_init) (defScope s_BadNumber_init) .none kV_BadNumber_init dc_BadNumber_init pm_BadNumber_init an_BadNumber_init cd_BadNumber_init ct_BadNumber_init), sl_BadNumber_init⟩)
    (d_BadNumber_init : PySem.W.codeIn K cd_BadNumber_init "BadNumber.__init__" = true)
    (k_BadNumber_init : PySem.W.keepIn K (.ref f_BadNumber_init) = true)
    (a_Root_init : PySem.W.findIn K (.ref c_Root) "__init__" = some (some (.ref f_Root_init)))
    (i_Root_init : PySem.W.isFn K (.ref f_Root_init) = true)
    (mk_Root_init : PySem.W.makesIn K c_Root = true)
    (kc_Root_init : PySem.W.keepIn K (.ref c_Root) = true)
    (l_Root_init : K.lookup f_Root_init = some ⟨oc_Root_init, od_Root_init, .func (PySem.W.fnOf "__init__" "Root.__init__" (defArgs s_Root_init) (defBody s_Root_init) (defScope s_Root_init) .none kV_Root_init dc_Root_init pm_Root_init an_Root_init cd_Root_init ct_Root_init), sl_Root_init⟩)
    (d_Root_init : PySem.W.codeIn K cd_Root_init "Root.__init__" = true)
    (k_Root_init : PySem.W.keepIn K (.ref f_Root_init) = true)
    (a_Root_eq : PySem.W.findIn K (.ref c_Root) "__eq__" = some (some (.ref f_Root_eq)))
    (i_Root_eq : PySem.W.isFn K (.ref f_Root_eq) = true)
    (l_Root_eq : K.lookup f_Root_eq = some ⟨oc_Root_eq, od_Root_eq, .func (PySem.W.fnOf "__eq__" "Root.__eq__" (defArgs s_Root_eq) (defBody s_Root_eq) (defScope s_Root_eq) .none kV_Root_eq dc_Root_eq pm_Root_eq an_Root_eq cd_Root_eq ct_Root_eq), sl_Root_eq⟩)
    (d_Root_eq : PySem.W.codeIn K cd_Root_eq "Root.__eq__" = true)
    (k_Root_eq : PySem.W.keepIn K (.ref f_Root_eq) = true)
    (a_Root_neg : PySem.W.findIn K (.ref c_Root) "__neg__" = some (some (.ref f_Root_neg)))
    (i_Root_neg : PySem.W.isFn K (.ref f_Root_neg) = true)
    (l_Root_neg : K.lookup f_Root_neg = some ⟨oc_Root_neg, od_Root_neg, .func (PySem.W.fnOf "__neg__" "Root.__neg__" (defArgs s_Root_neg) (defBody s_Root_neg) (defScope s_Root_neg) .none kV_Root_neg dc_Root_neg pm_Root_neg an_Root_neg cd_Root_neg ct_Root_neg), sl_Root_neg⟩)
    (d_Root_neg : PySem.W.codeIn K cd_Root_neg "Root.__neg__" = true)
    (k_Root_neg : PySem.W.keepIn K (.ref f_Root_neg) = true)
    (a_is_number : PySem.W.nsIn K mainGlobals "is_number" = some (some (.ref f_is_number)))
    (l_is_number : K.lookup f_is_number = some ⟨oc_is_number, od_is_number, .func (PySem.W.fnOf "is_number" "is_number" (defArgs s_is_number) (defBody s_is_number) (defScope s_is_number) .none kV_is_number dc_is_number pm_is_number an_is_number cd_is_number ct_is_number), sl_is_number⟩)
    (d_is_number : PySem.W.codeIn K cd_is_number "is_number" = true)
    (k_is_number : PySem.W.keepIn K (.ref f_is_number) = true)
    (a_as_root : PySem.W.nsIn K mainGlobals "as_root" = some (some (.ref f_as_root)))
    (l_as_root : K.lookup f_as_root = some ⟨oc_as_root, od_as_root, .func (PySem.W.fnOf "as_root" "as_root" (defArgs s_as_root) (defBody s_as_root) (defScope s_as_root) .none kV_as_root dc_as_root pm_as_root an_as_root cd_as_root ct_as_root), sl_as_root⟩)
    (d_as_root : PySem.W.codeIn K cd_as_root "as_root" = true)
    (k_as_root : PySem.W.keepIn K (.ref f_as_root) = true)
    (a_surd_sign : PySem.W.nsIn K mainGlobals "surd_sign" = some (some (.ref f_surd_sign)))
    (l_surd_sign : K.lookup f_surd_sign = some ⟨oc_surd_sign, od_surd_sign, .func (PySem.W.fnOf "surd_sign" "surd_sign" (defArgs s_surd_sign) (defBody s_surd_sign) (defScope s_surd_sign) .none kV_surd_sign dc_surd_sign pm_surd_sign an_surd_sign cd_surd_sign ct_surd_sign), sl_surd_sign⟩)
    (d_surd_sign : PySem.W.codeIn K cd_surd_sign "surd_sign" = true)
    (k_surd_sign : PySem.W.keepIn K (.ref f_surd_sign) = true)
    (a_Root_add : PySem.W.findIn K (.ref c_Root) "__add__" = some (some (.ref f_Root_add)))
    (i_Root_add : PySem.W.isFn K (.ref f_Root_add) = true)
    (l_Root_add : K.lookup f_Root_add = some ⟨oc_Root_add, od_Root_add, .func (PySem.W.fnOf "__add__" "Root.__add__" (defArgs s_Root_add) (defBody s_Root_add) (defScope s_Root_add) .none kV_Root_add dc_Root_add pm_Root_add an_Root_add cd_Root_add ct_Root_add), sl_Root_add⟩)
    (d_Root_add : PySem.W.codeIn K cd_Root_add "Root.__add__" = true)
    (k_Root_add : PySem.W.keepIn K (.ref f_Root_add) = true)
    (a_Root_sub : PySem.W.findIn K (.ref c_Root) "__sub__" = some (some (.ref f_Root_sub)))
    (i_Root_sub : PySem.W.isFn K (.ref f_Root_sub) = true)
    (l_Root_sub : K.lookup f_Root_sub = some ⟨oc_Root_sub, od_Root_sub, .func (PySem.W.fnOf "__sub__" "Root.__sub__" (defArgs s_Root_sub) (defBody s_Root_sub) (defScope s_Root_sub) .none kV_Root_sub dc_Root_sub pm_Root_sub an_Root_sub cd_Root_sub ct_Root_sub), sl_Root_sub⟩)
    (d_Root_sub : PySem.W.codeIn K cd_Root_sub "Root.__sub__" = true)
    (k_Root_sub : PySem.W.keepIn K (.ref f_Root_sub) = true)
    (a_Root_mul : PySem.W.findIn K (.ref c_Root) "__mul__" = some (some (.ref f_Root_mul)))
    (i_Root_mul : PySem.W.isFn K (.ref f_Root_mul) = true)
    (l_Root_mul : K.lookup f_Root_mul = some ⟨oc_Root_mul, od_Root_mul, .func (PySem.W.fnOf "__mul__" "Root.__mul__" (defArgs s_Root_mul) (defBody s_Root_mul) (defScope s_Root_mul) .none kV_Root_mul dc_Root_mul pm_Root_mul an_Root_mul cd_Root_mul ct_Root_mul), sl_Root_mul⟩)
    (d_Root_mul : PySem.W.codeIn K cd_Root_mul "Root.__mul__" = true)
    (k_Root_mul : PySem.W.keepIn K (.ref f_Root_mul) = true)
    (a_Root_radd : PySem.W.findIn K (.ref c_Root) "__radd__" = some (some (.ref f_Root_radd)))
    (i_Root_radd : PySem.W.isFn K (.ref f_Root_radd) = true)
    (l_Root_radd : K.lookup f_Root_radd = some ⟨oc_Root_radd, od_Root_radd, .func (PySem.W.fnOf "__radd__" "Root.__radd__" (defArgs s_Root_radd) (defBody s_Root_radd) (defScope s_Root_radd) .none kV_Root_radd dc_Root_radd pm_Root_radd an_Root_radd cd_Root_radd ct_Root_radd), sl_Root_radd⟩)
    (d_Root_radd : PySem.W.codeIn K cd_Root_radd "Root.__radd__" = true)
    (k_Root_radd : PySem.W.keepIn K (.ref f_Root_radd) = true)
    (a_Root_rmul : PySem.W.findIn K (.ref c_Root) "__rmul__" = some (some (.ref f_Root_rmul)))
    (i_Root_rmul : PySem.W.isFn K (.ref f_Root_rmul) = true)
    (l_Root_rmul : K.lookup f_Root_rmul = some ⟨oc_Root_rmul, od_Root_rmul, .func (PySem.W.fnOf "__rmul__" "Root.__rmul__" (defArgs s_Root_rmul) (defBody s_Root_rmul) (defScope s_Root_rmul) .none kV_Root_rmul dc_Root_rmul pm_Root_rmul an_Root_rmul cd_Root_rmul ct_Root_rmul), sl_Root_rmul⟩)
    (d_Root_rmul : PySem.W.codeIn K cd_Root_rmul "Root.__rmul__" = true)
    (k_Root_rmul : PySem.W.keepIn K (.ref f_Root_rmul) = true)
    (a_Root_rsub : PySem.W.findIn K (.ref c_Root) "__rsub__" = some (some (.ref f_Root_rsub)))
    (i_Root_rsub : PySem.W.isFn K (.ref f_Root_rsub) = true)
    (l_Root_rsub : K.lookup f_Root_rsub = some ⟨oc_Root_rsub, od_Root_rsub, .func (PySem.W.fnOf "__rsub__" "Root.__rsub__" (defArgs s_Root_rsub) (defBody s_Root_rsub) (defScope s_Root_rsub) .none kV_Root_rsub dc_Root_rsub pm_Root_rsub an_Root_rsub cd_Root_rsub ct_Root_rsub), sl_Root_rsub⟩)
    (d_Root_rsub : PySem.W.codeIn K cd_Root_rsub "Root.__rsub__" = true)
    (k_Root_rsub : PySem.W.keepIn K (.ref f_Root_rsub) = true)
    (a_Root_over : PySem.W.findIn K (.ref c_Root) "over" = some (some (.ref f_Root_over)))
    (i_Root_over : PySem.W.isFn K (.ref f_Root_over) = true)
    (l_Root_over : K.lookup f_Root_over = some ⟨oc_Root_over, od_Root_over, .func (PySem.W.fnOf "over" "Root.over" (defArgs s_Root_over) (defBody s_Root_over) (defScope s_Root_over) .none kV_Root_over dc_Root_over pm_Root_over an_Root_over cd_Root_over ct_Root_over), sl_Root_over⟩)
    (d_Root_over : PySem.W.codeIn K cd_Root_over "Root.over" = true)
    (k_Root_over : PySem.W.keepIn K (.ref f_Root_over) = true)
    (a_Root_less : PySem.W.findIn K (.ref c_Root) "less" = some (some (.ref f_Root_less)))
    (i_Root_less : PySem.W.isFn K (.ref f_Root_less) = true)
    (l_Root_less : K.lookup f_Root_less = some ⟨oc_Root_less, od_Root_less, .func (PySem.W.fnOf "less" "Root.less" (defArgs s_Root_less) (defBody s_Root_less) (defScope s_Root_less) .none kV_Root_less dc_Root_less pm_Root_less an_Root_less cd_Root_less ct_Root_less), sl_Root_less⟩)
    (d_Root_less : PySem.W.codeIn K cd_Root_less "Root.less" = true)
    (k_Root_less : PySem.W.keepIn K (.ref f_Root_less) = true)
    (a_Root_sign : PySem.W.findIn K (.ref c_Root) "sign" = some (some (.ref f_Root_sign)))
    (i_Root_sign : PySem.W.isFn K (.ref f_Root_sign) = true)
    (l_Root_sign : K.lookup f_Root_sign = some ⟨oc_Root_sign, od_Root_sign, .func (PySem.W.fnOf "sign" "Root.sign" (defArgs s_Root_sign) (defBody s_Root_sign) (defScope s_Root_sign) .none kV_Root_sign dc_Root_sign pm_Root_sign an_Root_sign cd_Root_sign ct_Root_sign), sl_Root_sign⟩)
    (d_Root_sign : PySem.W.codeIn K cd_Root_sign "Root.sign" = true)
    (k_Root_sign : PySem.W.keepIn K (.ref f_Root_sign) = true)
    (a_is_corner : PySem.W.nsIn K mainGlobals "is_corner" = some (some (.ref f_is_corner)))
    (l_is_corner : K.lookup f_is_corner = some ⟨oc_is_corner, od_is_corner, .func (PySem.W.fnOf "is_corner" "is_corner" (defArgs s_is_corner) (defBody s_is_corner) (defScope s_is_corner) .none kV_is_corner dc_is_corner pm_is_corner an_is_corner cd_is_corner ct_is_corner), sl_is_corner⟩)
    (d_is_corner : PySem.W.codeIn K cd_is_corner "is_corner" = true)
    (k_is_corner : PySem.W.keepIn K (.ref f_is_corner) = true)
    (a_check_corner : PySem.W.nsIn K mainGlobals "check_corner" = some (some (.ref f_check_corner)))
    (l_check_corner : K.lookup f_check_corner = some ⟨oc_check_corner, od_check_corner, .func (PySem.W.fnOf "check_corner" "check_corner" (defArgs s_check_corner) (defBody s_check_corner) (defScope s_check_corner) .none kV_check_corner dc_check_corner pm_check_corner an_check_corner cd_check_corner ct_check_corner), sl_check_corner⟩)
    (d_check_corner : PySem.W.codeIn K cd_check_corner "check_corner" = true)
    (k_check_corner : PySem.W.keepIn K (.ref f_check_corner) = true)
    (a_step : PySem.W.nsIn K mainGlobals "step" = some (some (.ref f_step)))
    (l_step : K.lookup f_step = some ⟨oc_step, od_step, .func (PySem.W.fnOf "step" "step" (defArgs s_step) (defBody s_step) (defScope s_step) .none kV_step dc_step pm_step an_step cd_step ct_step), sl_step⟩)
    (d_step : PySem.W.codeIn K cd_step "step" = true)
    (k_step : PySem.W.keepIn K (.ref f_step) = true)
    (a_is_point : PySem.W.nsIn K mainGlobals "is_point" = some (some (.ref f_is_point)))
    (l_is_point : K.lookup f_is_point = some ⟨oc_is_point, od_is_point, .func (PySem.W.fnOf "is_point" "is_point" (defArgs s_is_point) (defBody s_is_point) (defScope s_is_point) .none kV_is_point dc_is_point pm_is_point an_is_point cd_is_point ct_is_point), sl_is_point⟩)
    (d_is_point : PySem.W.codeIn K cd_is_point "is_point" = true)
    (k_is_point : PySem.W.keepIn K (.ref f_is_point) = true)
    (a_as_roots : PySem.W.nsIn K mainGlobals "as_roots" = some (some (.ref f_as_roots)))
    (l_as_roots : K.lookup f_as_roots = some ⟨oc_as_roots, od_as_roots, .func (PySem.W.fnOf "as_roots" "as_roots" (defArgs s_as_roots) (defBody s_as_roots) (defScope s_as_roots) .none kV_as_roots dc_as_roots pm_as_roots an_as_roots cd_as_roots ct_as_roots), sl_as_roots⟩)
    (d_as_roots : PySem.W.codeIn K cd_as_roots "as_roots" = true)
    (k_as_roots : PySem.W.keepIn K (.ref f_as_roots) = true)
    (a_check_point : PySem.W.nsIn K mainGlobals "check_point" = some (some (.ref f_check_point)))
    (l_check_point : K.lookup f_check_point = some ⟨oc_check_point, od_check_point, .func (PySem.W.fnOf "check_point" "check_point" (defArgs s_check_point) (defBody s_check_point) (defScope s_check_point) .none kV_check_point dc_check_point pm_check_point an_check_point cd_check_point ct_check_point), sl_check_point⟩)
    (d_check_point : PySem.W.codeIn K cd_check_point "check_point" = true)
    (k_check_point : PySem.W.keepIn K (.ref f_check_point) = true)
    (a_is_half : PySem.W.nsIn K mainGlobals "is_half" = some (some (.ref f_is_half)))
    (l_is_half : K.lookup f_is_half = some ⟨oc_is_half, od_is_half, .func (PySem.W.fnOf "is_half" "is_half" (defArgs s_is_half) (defBody s_is_half) (defScope s_is_half) .none kV_is_half dc_is_half pm_is_half an_is_half cd_is_half ct_is_half), sl_is_half⟩)
    (d_is_half : PySem.W.codeIn K cd_is_half "is_half" = true)
    (k_is_half : PySem.W.keepIn K (.ref f_is_half) = true)
    (a_bars_evenly : PySem.W.nsIn K mainGlobals "bars_evenly" = some (some (.ref f_bars_evenly)))
    (l_bars_evenly : K.lookup f_bars_evenly = some ⟨oc_bars_evenly, od_bars_evenly, .func (PySem.W.fnOf "bars_evenly" "bars_evenly" (defArgs s_bars_evenly) (defBody s_bars_evenly) (defScope s_bars_evenly) .none kV_bars_evenly dc_bars_evenly pm_bars_evenly an_bars_evenly cd_bars_evenly ct_bars_evenly), sl_bars_evenly⟩)
    (d_bars_evenly : PySem.W.codeIn K cd_bars_evenly "bars_evenly" = true)
    (k_bars_evenly : PySem.W.keepIn K (.ref f_bars_evenly) = true)
    (a_bars_oddly : PySem.W.nsIn K mainGlobals "bars_oddly" = some (some (.ref f_bars_oddly)))
    (l_bars_oddly : K.lookup f_bars_oddly = some ⟨oc_bars_oddly, od_bars_oddly, .func (PySem.W.fnOf "bars_oddly" "bars_oddly" (defArgs s_bars_oddly) (defBody s_bars_oddly) (defScope s_bars_oddly) .none kV_bars_oddly dc_bars_oddly pm_bars_oddly an_bars_oddly cd_bars_oddly ct_bars_oddly), sl_bars_oddly⟩)
    (d_bars_oddly : PySem.W.codeIn K cd_bars_oddly "bars_oddly" = true)
    (k_bars_oddly : PySem.W.keepIn K (.ref f_bars_oddly) = true)
    (a_barred : PySem.W.nsIn K mainGlobals "barred" = some (some (.ref f_barred)))
    (l_barred : K.lookup f_barred = some ⟨oc_barred, od_barred, .func (PySem.W.fnOf "barred" "barred" (defArgs s_barred) (defBody s_barred) (defScope s_barred) .none kV_barred dc_barred pm_barred an_barred cd_barred ct_barred), sl_barred⟩)
    (d_barred : PySem.W.codeIn K cd_barred "barred" = true)
    (k_barred : PySem.W.keepIn K (.ref f_barred) = true)
    (a_gauge_of : PySem.W.nsIn K mainGlobals "gauge_of" = some (some (.ref f_gauge_of)))
    (l_gauge_of : K.lookup f_gauge_of = some ⟨oc_gauge_of, od_gauge_of, .func (PySem.W.fnOf "gauge_of" "gauge_of" (defArgs s_gauge_of) (defBody s_gauge_of) (defScope s_gauge_of) .none kV_gauge_of dc_gauge_of pm_gauge_of an_gauge_of cd_gauge_of ct_gauge_of), sl_gauge_of⟩)
    (d_gauge_of : PySem.W.codeIn K cd_gauge_of "gauge_of" = true)
    (k_gauge_of : PySem.W.keepIn K (.ref f_gauge_of) = true)
    (a_beside : PySem.W.nsIn K mainGlobals "beside" = some (some (.ref f_beside)))
    (l_beside : K.lookup f_beside = some ⟨oc_beside, od_beside, .func (PySem.W.fnOf "beside" "beside" (defArgs s_beside) (defBody s_beside) (defScope s_beside) .none kV_beside dc_beside pm_beside an_beside cd_beside ct_beside), sl_beside⟩)
    (d_beside : PySem.W.codeIn K cd_beside "beside" = true)
    (k_beside : PySem.W.keepIn K (.ref f_beside) = true)
    (a_in_window : PySem.W.nsIn K mainGlobals "in_window" = some (some (.ref f_in_window)))
    (l_in_window : K.lookup f_in_window = some ⟨oc_in_window, od_in_window, .func (PySem.W.fnOf "in_window" "in_window" (defArgs s_in_window) (defBody s_in_window) (defScope s_in_window) .none kV_in_window dc_in_window pm_in_window an_in_window cd_in_window ct_in_window), sl_in_window⟩)
    (d_in_window : PySem.W.codeIn K cd_in_window "in_window" = true)
    (k_in_window : PySem.W.keepIn K (.ref f_in_window) = true)
    (a_Floor_init : PySem.W.findIn K (.ref c_Floor) "__init__" = some (some (.ref f_Floor_init)))
    (i_Floor_init : PySem.W.isFn K (.ref f_Floor_init) = true)
    (mk_Floor_init : PySem.W.makesIn K c_Floor = true)
    (kc_Floor_init : PySem.W.keepIn K (.ref c_Floor) = true)
    (l_Floor_init : K.lookup f_Floor_init = some ⟨oc_Floor_init, od_Floor_init, .func (PySem.W.fnOf "__init__" "Floor.__init__" (defArgs s_Floor_init) (defBody s_Floor_init) (defScope s_Floor_init) .none kV_Floor_init dc_Floor_init pm_Floor_init an_Floor_init cd_Floor_init ct_Floor_init), sl_Floor_init⟩)
    (d_Floor_init : PySem.W.codeIn K cd_Floor_init "Floor.__init__" = true)
    (k_Floor_init : PySem.W.keepIn K (.ref f_Floor_init) = true)
    (a_Floor_has_corner : PySem.W.findIn K (.ref c_Floor) "has_corner" = some (some (.ref f_Floor_has_corner)))
    (i_Floor_has_corner : PySem.W.isFn K (.ref f_Floor_has_corner) = true)
    (l_Floor_has_corner : K.lookup f_Floor_has_corner = some ⟨oc_Floor_has_corner, od_Floor_has_corner, .func (PySem.W.fnOf "has_corner" "Floor.has_corner" (defArgs s_Floor_has_corner) (defBody s_Floor_has_corner) (defScope s_Floor_has_corner) .none kV_Floor_has_corner dc_Floor_has_corner pm_Floor_has_corner an_Floor_has_corner cd_Floor_has_corner ct_Floor_has_corner), sl_Floor_has_corner⟩)
    (d_Floor_has_corner : PySem.W.codeIn K cd_Floor_has_corner "Floor.has_corner" = true)
    (k_Floor_has_corner : PySem.W.keepIn K (.ref f_Floor_has_corner) = true)
    (a_Floor_eq : PySem.W.findIn K (.ref c_Floor) "__eq__" = some (some (.ref f_Floor_eq)))
    (i_Floor_eq : PySem.W.isFn K (.ref f_Floor_eq) = true)
    (l_Floor_eq : K.lookup f_Floor_eq = some ⟨oc_Floor_eq, od_Floor_eq, .func (PySem.W.fnOf "__eq__" "Floor.__eq__" (defArgs s_Floor_eq) (defBody s_Floor_eq) (defScope s_Floor_eq) .none kV_Floor_eq dc_Floor_eq pm_Floor_eq an_Floor_eq cd_Floor_eq ct_Floor_eq), sl_Floor_eq⟩)
    (d_Floor_eq : PySem.W.codeIn K cd_Floor_eq "Floor.__eq__" = true)
    (k_Floor_eq : PySem.W.keepIn K (.ref f_Floor_eq) = true)
    (a_is_bound : PySem.W.nsIn K mainGlobals "is_bound" = some (some (.ref f_is_bound)))
    (l_is_bound : K.lookup f_is_bound = some ⟨oc_is_bound, od_is_bound, .func (PySem.W.fnOf "is_bound" "is_bound" (defArgs s_is_bound) (defBody s_is_bound) (defScope s_is_bound) .none kV_is_bound dc_is_bound pm_is_bound an_is_bound cd_is_bound ct_is_bound), sl_is_bound⟩)
    (d_is_bound : PySem.W.codeIn K cd_is_bound "is_bound" = true)
    (k_is_bound : PySem.W.keepIn K (.ref f_is_bound) = true)
    (a_check_bounds : PySem.W.nsIn K mainGlobals "check_bounds" = some (some (.ref f_check_bounds)))
    (l_check_bounds : K.lookup f_check_bounds = some ⟨oc_check_bounds, od_check_bounds, .func (PySem.W.fnOf "check_bounds" "check_bounds" (defArgs s_check_bounds) (defBody s_check_bounds) (defScope s_check_bounds) .none kV_check_bounds dc_check_bounds pm_check_bounds an_check_bounds cd_check_bounds ct_check_bounds), sl_check_bounds⟩)
    (d_check_bounds : PySem.W.codeIn K cd_check_bounds "check_bounds" = true)
    (k_check_bounds : PySem.W.keepIn K (.ref f_check_bounds) = true)
    (a_toward : PySem.W.nsIn K mainGlobals "toward" = some (some (.ref f_toward)))
    (l_toward : K.lookup f_toward = some ⟨oc_toward, od_toward, .func (PySem.W.fnOf "toward" "toward" (defArgs s_toward) (defBody s_toward) (defScope s_toward) .none kV_toward dc_toward pm_toward an_toward cd_toward ct_toward), sl_toward⟩)
    (d_toward : PySem.W.codeIn K cd_toward "toward" = true)
    (k_toward : PySem.W.keepIn K (.ref f_toward) = true)
    (a_least_indexes : PySem.W.nsIn K mainGlobals "least_indexes" = some (some (.ref f_least_indexes)))
    (l_least_indexes : K.lookup f_least_indexes = some ⟨oc_least_indexes, od_least_indexes, .func (PySem.W.fnOf "least_indexes" "least_indexes" (defArgs s_least_indexes) (defBody s_least_indexes) (defScope s_least_indexes) .none kV_least_indexes dc_least_indexes pm_least_indexes an_least_indexes cd_least_indexes ct_least_indexes), sl_least_indexes⟩)
    (d_least_indexes : PySem.W.codeIn K cd_least_indexes "least_indexes" = true)
    (k_least_indexes : PySem.W.keepIn K (.ref f_least_indexes) = true)
    (a_least_numbers : PySem.W.nsIn K mainGlobals "least_numbers" = some (some (.ref f_least_numbers)))
    (l_least_numbers : K.lookup f_least_numbers = some ⟨oc_least_numbers, od_least_numbers, .func (PySem.W.fnOf "least_numbers" "least_numbers" (defArgs s_least_numbers) (defBody s_least_numbers) (defScope s_least_numbers) .none kV_least_numbers dc_least_numbers pm_least_numbers an_least_numbers cd_least_numbers ct_least_numbers), sl_least_numbers⟩)
    (d_least_numbers : PySem.W.codeIn K cd_least_numbers "least_numbers" = true)
    (k_least_numbers : PySem.W.keepIn K (.ref f_least_numbers) = true)
    (a_over_common : PySem.W.nsIn K mainGlobals "over_common" = some (some (.ref f_over_common)))
    (l_over_common : K.lookup f_over_common = some ⟨oc_over_common, od_over_common, .func (PySem.W.fnOf "over_common" "over_common" (defArgs s_over_common) (defBody s_over_common) (defScope s_over_common) .none kV_over_common dc_over_common pm_over_common an_over_common cd_over_common ct_over_common), sl_over_common⟩)
    (d_over_common : PySem.W.codeIn K cd_over_common "over_common" = true)
    (k_over_common : PySem.W.keepIn K (.ref f_over_common) = true)
    (a_pair_sum : PySem.W.nsIn K mainGlobals "pair_sum" = some (some (.ref f_pair_sum)))
    (l_pair_sum : K.lookup f_pair_sum = some ⟨oc_pair_sum, od_pair_sum, .func (PySem.W.fnOf "pair_sum" "pair_sum" (defArgs s_pair_sum) (defBody s_pair_sum) (defScope s_pair_sum) .none kV_pair_sum dc_pair_sum pm_pair_sum an_pair_sum cd_pair_sum ct_pair_sum), sl_pair_sum⟩)
    (d_pair_sum : PySem.W.codeIn K cd_pair_sum "pair_sum" = true)
    (k_pair_sum : PySem.W.keepIn K (.ref f_pair_sum) = true)
    (a_presses_on : PySem.W.nsIn K mainGlobals "presses_on" = some (some (.ref f_presses_on)))
    (l_presses_on : K.lookup f_presses_on = some ⟨oc_presses_on, od_presses_on, .func (PySem.W.fnOf "presses_on" "presses_on" (defArgs s_presses_on) (defBody s_presses_on) (defScope s_presses_on) .none kV_presses_on dc_presses_on pm_presses_on an_presses_on cd_presses_on ct_presses_on), sl_presses_on⟩)
    (d_presses_on : PySem.W.codeIn K cd_presses_on "presses_on" = true)
    (k_presses_on : PySem.W.keepIn K (.ref f_presses_on) = true)
    (a_barring_parts : PySem.W.nsIn K mainGlobals "barring_parts" = some (some (.ref f_barring_parts)))
    (l_barring_parts : K.lookup f_barring_parts = some ⟨oc_barring_parts, od_barring_parts, .func (PySem.W.fnOf "barring_parts" "barring_parts" (defArgs s_barring_parts) (defBody s_barring_parts) (defScope s_barring_parts) .none kV_barring_parts dc_barring_parts pm_barring_parts an_barring_parts cd_barring_parts ct_barring_parts), sl_barring_parts⟩)
    (d_barring_parts : PySem.W.codeIn K cd_barring_parts "barring_parts" = true)
    (k_barring_parts : PySem.W.keepIn K (.ref f_barring_parts) = true)
    (a_least_pair : PySem.W.nsIn K mainGlobals "least_pair" = some (some (.ref f_least_pair)))
    (l_least_pair : K.lookup f_least_pair = some ⟨oc_least_pair, od_least_pair, .func (PySem.W.fnOf "least_pair" "least_pair" (defArgs s_least_pair) (defBody s_least_pair) (defScope s_least_pair) .none kV_least_pair dc_least_pair pm_least_pair an_least_pair cd_least_pair ct_least_pair), sl_least_pair⟩)
    (d_least_pair : PySem.W.codeIn K cd_least_pair "least_pair" = true)
    (k_least_pair : PySem.W.keepIn K (.ref f_least_pair) = true)
    (a_tightened : PySem.W.nsIn K mainGlobals "tightened" = some (some (.ref f_tightened)))
    (l_tightened : K.lookup f_tightened = some ⟨oc_tightened, od_tightened, .func (PySem.W.fnOf "tightened" "tightened" (defArgs s_tightened) (defBody s_tightened) (defScope s_tightened) .none kV_tightened dc_tightened pm_tightened an_tightened cd_tightened ct_tightened), sl_tightened⟩)
    (d_tightened : PySem.W.codeIn K cd_tightened "tightened" = true)
    (k_tightened : PySem.W.keepIn K (.ref f_tightened) = true)
    (a_Piece_init : PySem.W.findIn K (.ref c_Piece) "__init__" = some (some (.ref f_Piece_init)))
    (i_Piece_init : PySem.W.isFn K (.ref f_Piece_init) = true)
    (mk_Piece_init : PySem.W.makesIn K c_Piece = true)
    (kc_Piece_init : PySem.W.keepIn K (.ref c_Piece) = true)
    (l_Piece_init : K.lookup f_Piece_init = some ⟨oc_Piece_init, od_Piece_init, .func (PySem.W.fnOf "__init__" "Piece.__init__" (defArgs s_Piece_init) (defBody s_Piece_init) (defScope s_Piece_init) .none kV_Piece_init dc_Piece_init pm_Piece_init an_Piece_init cd_Piece_init ct_Piece_init), sl_Piece_init⟩)
    (d_Piece_init : PySem.W.codeIn K cd_Piece_init "Piece.__init__" = true)
    (k_Piece_init : PySem.W.keepIn K (.ref f_Piece_init) = true)
    (a_Piece_is_empty : PySem.W.findIn K (.ref c_Piece) "is_empty" = some (some (.ref f_Piece_is_empty)))
    (i_Piece_is_empty : PySem.W.isFn K (.ref f_Piece_is_empty) = true)
    (l_Piece_is_empty : K.lookup f_Piece_is_empty = some ⟨oc_Piece_is_empty, od_Piece_is_empty, .func (PySem.W.fnOf "is_empty" "Piece.is_empty" (defArgs s_Piece_is_empty) (defBody s_Piece_is_empty) (defScope s_Piece_is_empty) .none kV_Piece_is_empty dc_Piece_is_empty pm_Piece_is_empty an_Piece_is_empty cd_Piece_is_empty ct_Piece_is_empty), sl_Piece_is_empty⟩)
    (d_Piece_is_empty : PySem.W.codeIn K cd_Piece_is_empty "Piece.is_empty" = true)
    (k_Piece_is_empty : PySem.W.keepIn K (.ref f_Piece_is_empty) = true)
    (a_rows_of : PySem.W.nsIn K mainGlobals "rows_of" = some (some (.ref f_rows_of)))
    (l_rows_of : K.lookup f_rows_of = some ⟨oc_rows_of, od_rows_of, .func (PySem.W.fnOf "rows_of" "rows_of" (defArgs s_rows_of) (defBody s_rows_of) (defScope s_rows_of) .none kV_rows_of dc_rows_of pm_rows_of an_rows_of cd_rows_of ct_rows_of), sl_rows_of⟩)
    (d_rows_of : PySem.W.codeIn K cd_rows_of "rows_of" = true)
    (k_rows_of : PySem.W.keepIn K (.ref f_rows_of) = true)
    (a_Piece_has : PySem.W.findIn K (.ref c_Piece) "has" = some (some (.ref f_Piece_has)))
    (i_Piece_has : PySem.W.isFn K (.ref f_Piece_has) = true)
    (l_Piece_has : K.lookup f_Piece_has = some ⟨oc_Piece_has, od_Piece_has, .func (PySem.W.fnOf "has" "Piece.has" (defArgs s_Piece_has) (defBody s_Piece_has) (defScope s_Piece_has) .none kV_Piece_has dc_Piece_has pm_Piece_has an_Piece_has cd_Piece_has ct_Piece_has), sl_Piece_has⟩)
    (d_Piece_has : PySem.W.codeIn K cd_Piece_has "Piece.has" = true)
    (k_Piece_has : PySem.W.keepIn K (.ref f_Piece_has) = true)
    (a__law_dice : PySem.W.nsIn K mainGlobals "_law_dice" = some (some (.ref f__law_dice)))
    (l__law_dice : K.lookup f__law_dice = some ⟨oc__law_dice, od__law_dice, .func (PySem.W.fnOf "_law_dice" "_law_dice" (defArgs s__law_dice) (defBody s__law_dice) (defScope s__law_dice) .none kV__law_dice dc__law_dice pm__law_dice an__law_dice cd__law_dice ct__law_dice), sl__law_dice⟩)
    (d__law_dice : PySem.W.codeIn K cd__law_dice "_law_dice" = true)
    (k__law_dice : PySem.W.keepIn K (.ref f__law_dice) = true)
    (a__law_draw : PySem.W.nsIn K mainGlobals "_law_draw" = some (some (.ref f__law_draw)))
    (l__law_draw : K.lookup f__law_draw = some ⟨oc__law_draw, od__law_draw, .func (PySem.W.fnOf "_law_draw" "_law_draw" (defArgs s__law_draw) (defBody s__law_draw) (defScope s__law_draw) .none kV__law_draw dc__law_draw pm__law_draw an__law_draw cd__law_draw ct__law_draw), sl__law_draw⟩)
    (d__law_draw : PySem.W.codeIn K cd__law_draw "_law_draw" = true)
    (k__law_draw : PySem.W.keepIn K (.ref f__law_draw) = true)
    (a__law_wide : PySem.W.nsIn K mainGlobals "_law_wide" = some (some (.ref f__law_wide)))
    (l__law_wide : K.lookup f__law_wide = some ⟨oc__law_wide, od__law_wide, .func (PySem.W.fnOf "_law_wide" "_law_wide" (defArgs s__law_wide) (defBody s__law_wide) (defScope s__law_wide) .none kV__law_wide dc__law_wide pm__law_wide an__law_wide cd__law_wide ct__law_wide), sl__law_wide⟩)
    (d__law_wide : PySem.W.codeIn K cd__law_wide "_law_wide" = true)
    (k__law_wide : PySem.W.keepIn K (.ref f__law_wide) = true)
    (a_check_floor : PySem.W.nsIn K mainGlobals "check_floor" = some (some (.ref f_check_floor)))
    (l_check_floor : K.lookup f_check_floor = some ⟨oc_check_floor, od_check_floor, .func (PySem.W.fnOf "check_floor" "check_floor" (defArgs s_check_floor) (defBody s_check_floor) (defScope s_check_floor) .none kV_check_floor dc_check_floor pm_check_floor an_check_floor cd_check_floor ct_check_floor), sl_check_floor⟩)
    (d_check_floor : PySem.W.codeIn K cd_check_floor "check_floor" = true)
    (k_check_floor : PySem.W.keepIn K (.ref f_check_floor) = true)
    (a_check_many : PySem.W.nsIn K mainGlobals "check_many" = some (some (.ref f_check_many)))
    (l_check_many : K.lookup f_check_many = some ⟨oc_check_many, od_check_many, .func (PySem.W.fnOf "check_many" "check_many" (defArgs s_check_many) (defBody s_check_many) (defScope s_check_many) .none kV_check_many dc_check_many pm_check_many an_check_many cd_check_many ct_check_many), sl_check_many⟩)
    (d_check_many : PySem.W.codeIn K cd_check_many "check_many" = true)
    (k_check_many : PySem.W.keepIn K (.ref f_check_many) = true)
    (a_factor : PySem.W.nsIn K mainGlobals "factor" = some (some (.ref f_factor)))
    (l_factor : K.lookup f_factor = some ⟨oc_factor, od_factor, .func (PySem.W.fnOf "factor" "factor" (defArgs s_factor) (defBody s_factor) (defScope s_factor) .none kV_factor dc_factor pm_factor an_factor cd_factor ct_factor), sl_factor⟩)
    (d_factor : PySem.W.codeIn K cd_factor "factor" = true)
    (k_factor : PySem.W.keepIn K (.ref f_factor) = true)
    (a_scaled : PySem.W.nsIn K mainGlobals "scaled" = some (some (.ref f_scaled)))
    (l_scaled : K.lookup f_scaled = some ⟨oc_scaled, od_scaled, .func (PySem.W.fnOf "scaled" "scaled" (defArgs s_scaled) (defBody s_scaled) (defScope s_scaled) .none kV_scaled dc_scaled pm_scaled an_scaled cd_scaled ct_scaled), sl_scaled⟩)
    (d_scaled : PySem.W.codeIn K cd_scaled "scaled" = true)
    (k_scaled : PySem.W.keepIn K (.ref f_scaled) = true)
    (a_led : PySem.W.nsIn K mainGlobals "led" = some (some (.ref f_led)))
    (l_led : K.lookup f_led = some ⟨oc_led, od_led, .func (PySem.W.fnOf "led" "led" (defArgs s_led) (defBody s_led) (defScope s_led) .none kV_led dc_led pm_led an_led cd_led ct_led), sl_led⟩)
    (d_led : PySem.W.codeIn K cd_led "led" = true)
    (k_led : PySem.W.keepIn K (.ref f_led) = true)
    (a_greater_floor : PySem.W.nsIn K mainGlobals "greater_floor" = some (some (.ref f_greater_floor)))
    (l_greater_floor : K.lookup f_greater_floor = some ⟨oc_greater_floor, od_greater_floor, .func (PySem.W.fnOf "greater_floor" "greater_floor" (defArgs s_greater_floor) (defBody s_greater_floor) (defScope s_greater_floor) .none kV_greater_floor dc_greater_floor pm_greater_floor an_greater_floor cd_greater_floor ct_greater_floor), sl_greater_floor⟩)
    (d_greater_floor : PySem.W.codeIn K cd_greater_floor "greater_floor" = true)
    (k_greater_floor : PySem.W.keepIn K (.ref f_greater_floor) = true)
    (a_lesser_floor : PySem.W.nsIn K mainGlobals "lesser_floor" = some (some (.ref f_lesser_floor)))
    (l_lesser_floor : K.lookup f_lesser_floor = some ⟨oc_lesser_floor, od_lesser_floor, .func (PySem.W.fnOf "lesser_floor" "lesser_floor" (defArgs s_lesser_floor) (defBody s_lesser_floor) (defScope s_lesser_floor) .none kV_lesser_floor dc_lesser_floor pm_lesser_floor an_lesser_floor cd_lesser_floor ct_lesser_floor), sl_lesser_floor⟩)
    (d_lesser_floor : PySem.W.codeIn K cd_lesser_floor "lesser_floor" = true)
    (k_lesser_floor : PySem.W.keepIn K (.ref f_lesser_floor) = true)
    (a_led_up : PySem.W.nsIn K mainGlobals "led_up" = some (some (.ref f_led_up)))
    (l_led_up : K.lookup f_led_up = some ⟨oc_led_up, od_led_up, .func (PySem.W.fnOf "led_up" "led_up" (defArgs s_led_up) (defBody s_led_up) (defScope s_led_up) .none kV_led_up dc_led_up pm_led_up an_led_up cd_led_up ct_led_up), sl_led_up⟩)
    (d_led_up : PySem.W.codeIn K cd_led_up "led_up" = true)
    (k_led_up : PySem.W.keepIn K (.ref f_led_up) = true)
    (a__law_is_half : PySem.W.nsIn K mainGlobals "_law_is_half" = some (some (.ref f__law_is_half)))
    (l__law_is_half : K.lookup f__law_is_half = some ⟨oc__law_is_half, od__law_is_half, .func (PySem.W.fnOf "_law_is_half" "_law_is_half" (defArgs s__law_is_half) (defBody s__law_is_half) (defScope s__law_is_half) .none kV__law_is_half dc__law_is_half pm__law_is_half an__law_is_half cd__law_is_half ct__law_is_half), sl__law_is_half⟩)
    (d__law_is_half : PySem.W.codeIn K cd__law_is_half "_law_is_half" = true)
    (k__law_is_half : PySem.W.keepIn K (.ref f__law_is_half) = true)
    (a__law_is_let : PySem.W.nsIn K mainGlobals "_law_is_let" = some (some (.ref f__law_is_let)))
    (l__law_is_let : K.lookup f__law_is_let = some ⟨oc__law_is_let, od__law_is_let, .func (PySem.W.fnOf "_law_is_let" "_law_is_let" (defArgs s__law_is_let) (defBody s__law_is_let) (defScope s__law_is_let) .none kV__law_is_let dc__law_is_let pm__law_is_let an__law_is_let cd__law_is_let ct__law_is_let), sl__law_is_let⟩)
    (d__law_is_let : PySem.W.codeIn K cd__law_is_let "_law_is_let" = true)
    (k__law_is_let : PySem.W.keepIn K (.ref f__law_is_let) = true)
    (a__law_let : PySem.W.nsIn K mainGlobals "_law_let" = some (some (.ref f__law_let)))
    (l__law_let : K.lookup f__law_let = some ⟨oc__law_let, od__law_let, .func (PySem.W.fnOf "_law_let" "_law_let" (defArgs s__law_let) (defBody s__law_let) (defScope s__law_let) .none kV__law_let dc__law_let pm__law_let an__law_let cd__law_let ct__law_let), sl__law_let⟩)
    (d__law_let : PySem.W.codeIn K cd__law_let "_law_let" = true)
    (k__law_let : PySem.W.keepIn K (.ref f__law_let) = true)
    (a__law_shift : PySem.W.nsIn K mainGlobals "_law_shift" = some (some (.ref f__law_shift)))
    (l__law_shift : K.lookup f__law_shift = some ⟨oc__law_shift, od__law_shift, .func (PySem.W.fnOf "_law_shift" "_law_shift" (defArgs s__law_shift) (defBody s__law_shift) (defScope s__law_shift) .none kV__law_shift dc__law_shift pm__law_shift an__law_shift cd__law_shift ct__law_shift), sl__law_shift⟩)
    (d__law_shift : PySem.W.codeIn K cd__law_shift "_law_shift" = true)
    (k__law_shift : PySem.W.keepIn K (.ref f__law_shift) = true)
    (a__law_led : PySem.W.nsIn K mainGlobals "_law_led" = some (some (.ref f__law_led)))
    (l__law_led : K.lookup f__law_led = some ⟨oc__law_led, od__law_led, .func (PySem.W.fnOf "_law_led" "_law_led" (defArgs s__law_led) (defBody s__law_led) (defScope s__law_led) .none kV__law_led dc__law_led pm__law_led an__law_led cd__law_led ct__law_led), sl__law_led⟩)
    (d__law_led : PySem.W.codeIn K cd__law_led "_law_led" = true)
    (k__law_led : PySem.W.keepIn K (.ref f__law_led) = true)
    (a__law_number : PySem.W.nsIn K mainGlobals "_law_number" = some (some (.ref f__law_number)))
    (l__law_number : K.lookup f__law_number = some ⟨oc__law_number, od__law_number, .func (PySem.W.fnOf "_law_number" "_law_number" (defArgs s__law_number) (defBody s__law_number) (defScope s__law_number) .none kV__law_number dc__law_number pm__law_number an__law_number cd__law_number ct__law_number), sl__law_number⟩)
    (d__law_number : PySem.W.codeIn K cd__law_number "_law_number" = true)
    (k__law_number : PySem.W.keepIn K (.ref f__law_number) = true)
    (a__law_point : PySem.W.nsIn K mainGlobals "_law_point" = some (some (.ref f__law_point)))
    (l__law_point : K.lookup f__law_point = some ⟨oc__law_point, od__law_point, .func (PySem.W.fnOf "_law_point" "_law_point" (defArgs s__law_point) (defBody s__law_point) (defScope s__law_point) .none kV__law_point dc__law_point pm__law_point an__law_point cd__law_point ct__law_point), sl__law_point⟩)
    (d__law_point : PySem.W.codeIn K cd__law_point "_law_point" = true)
    (k__law_point : PySem.W.keepIn K (.ref f__law_point) = true)
    (a__law_is_integer : PySem.W.nsIn K mainGlobals "_law_is_integer" = some (some (.ref f__law_is_integer)))
    (l__law_is_integer : K.lookup f__law_is_integer = some ⟨oc__law_is_integer, od__law_is_integer, .func (PySem.W.fnOf "_law_is_integer" "_law_is_integer" (defArgs s__law_is_integer) (defBody s__law_is_integer) (defScope s__law_is_integer) .none kV__law_is_integer dc__law_is_integer pm__law_is_integer an__law_is_integer cd__law_is_integer ct__law_is_integer), sl__law_is_integer⟩)
    (d__law_is_integer : PySem.W.codeIn K cd__law_is_integer "_law_is_integer" = true)
    (k__law_is_integer : PySem.W.keepIn K (.ref f__law_is_integer) = true)
    (a__law_is_root : PySem.W.nsIn K mainGlobals "_law_is_root" = some (some (.ref f__law_is_root)))
    (l__law_is_root : K.lookup f__law_is_root = some ⟨oc__law_is_root, od__law_is_root, .func (PySem.W.fnOf "_law_is_root" "_law_is_root" (defArgs s__law_is_root) (defBody s__law_is_root) (defScope s__law_is_root) .none kV__law_is_root dc__law_is_root pm__law_is_root an__law_is_root cd__law_is_root ct__law_is_root), sl__law_is_root⟩)
    (d__law_is_root : PySem.W.codeIn K cd__law_is_root "_law_is_root" = true)
    (k__law_is_root : PySem.W.keepIn K (.ref f__law_is_root) = true)
    (a__law_is_floor : PySem.W.nsIn K mainGlobals "_law_is_floor" = some (some (.ref f__law_is_floor)))
    (l__law_is_floor : K.lookup f__law_is_floor = some ⟨oc__law_is_floor, od__law_is_floor, .func (PySem.W.fnOf "_law_is_floor" "_law_is_floor" (defArgs s__law_is_floor) (defBody s__law_is_floor) (defScope s__law_is_floor) .none kV__law_is_floor dc__law_is_floor pm__law_is_floor an__law_is_floor cd__law_is_floor ct__law_is_floor), sl__law_is_floor⟩)
    (d__law_is_floor : PySem.W.codeIn K cd__law_is_floor "_law_is_floor" = true)
    (k__law_is_floor : PySem.W.keepIn K (.ref f__law_is_floor) = true)
    (a_Piece_eq : PySem.W.findIn K (.ref c_Piece) "__eq__" = some (some (.ref f_Piece_eq)))
    (i_Piece_eq : PySem.W.isFn K (.ref f_Piece_eq) = true)
    (l_Piece_eq : K.lookup f_Piece_eq = some ⟨oc_Piece_eq, od_Piece_eq, .func (PySem.W.fnOf "__eq__" "Piece.__eq__" (defArgs s_Piece_eq) (defBody s_Piece_eq) (defScope s_Piece_eq) .none kV_Piece_eq dc_Piece_eq pm_Piece_eq an_Piece_eq cd_Piece_eq ct_Piece_eq), sl_Piece_eq⟩)
    (d_Piece_eq : PySem.W.codeIn K cd_Piece_eq "Piece.__eq__" = true)
    (k_Piece_eq : PySem.W.keepIn K (.ref f_Piece_eq) = true)
    (a__law_no_floor : PySem.W.nsIn K mainGlobals "_law_no_floor" = some (some (.ref f__law_no_floor)))
    (l__law_no_floor : K.lookup f__law_no_floor = some ⟨oc__law_no_floor, od__law_no_floor, .func (PySem.W.fnOf "_law_no_floor" "_law_no_floor" (defArgs s__law_no_floor) (defBody s__law_no_floor) (defScope s__law_no_floor) .none kV__law_no_floor dc__law_no_floor pm__law_no_floor an__law_no_floor cd__law_no_floor ct__law_no_floor), sl__law_no_floor⟩)
    (d__law_no_floor : PySem.W.codeIn K cd__law_no_floor "_law_no_floor" = true)
    (k__law_no_floor : PySem.W.keepIn K (.ref f__law_no_floor) = true)
    (a__law_no_size : PySem.W.nsIn K mainGlobals "_law_no_size" = some (some (.ref f__law_no_size)))
    (l__law_no_size : K.lookup f__law_no_size = some ⟨oc__law_no_size, od__law_no_size, .func (PySem.W.fnOf "_law_no_size" "_law_no_size" (defArgs s__law_no_size) (defBody s__law_no_size) (defScope s__law_no_size) .none kV__law_no_size dc__law_no_size pm__law_no_size an__law_no_size cd__law_no_size ct__law_no_size), sl__law_no_size⟩)
    (d__law_no_size : PySem.W.codeIn K cd__law_no_size "_law_no_size" = true)
    (k__law_no_size : PySem.W.keepIn K (.ref f__law_no_size) = true)
    (a__law_told : PySem.W.nsIn K mainGlobals "_law_told" = some (some (.ref f__law_told)))
    (l__law_told : K.lookup f__law_told = some ⟨oc__law_told, od__law_told, .func (PySem.W.fnOf "_law_told" "_law_told" (defArgs s__law_told) (defBody s__law_told) (defScope s__law_told) .none kV__law_told dc__law_told pm__law_told an__law_told cd__law_told ct__law_told), sl__law_told⟩)
    (d__law_told : PySem.W.codeIn K cd__law_told "_law_told" = true)
    (k__law_told : PySem.W.keepIn K (.ref f__law_told) = true)
    (a__law_both_refused : PySem.W.nsIn K mainGlobals "_law_both_refused" = some (some (.ref f__law_both_refused)))
    (l__law_both_refused : K.lookup f__law_both_refused = some ⟨oc__law_both_refused, od__law_both_refused, .func (PySem.W.fnOf "_law_both_refused" "_law_both_refused" (defArgs s__law_both_refused) (defBody s__law_both_refused) (defScope s__law_both_refused) .none kV__law_both_refused dc__law_both_refused pm__law_both_refused an__law_both_refused cd__law_both_refused ct__law_both_refused), sl__law_both_refused⟩)
    (d__law_both_refused : PySem.W.codeIn K cd__law_both_refused "_law_both_refused" = true)
    (k__law_both_refused : PySem.W.keepIn K (.ref f__law_both_refused) = true)
    (a__law_refusals : PySem.W.nsIn K mainGlobals "_law_refusals" = some (some (.ref f__law_refusals)))
    (l__law_refusals : K.lookup f__law_refusals = some ⟨oc__law_refusals, od__law_refusals, .func (PySem.W.fnOf "_law_refusals" "_law_refusals" (defArgs s__law_refusals) (defBody s__law_refusals) (defScope s__law_refusals) .none kV__law_refusals dc__law_refusals pm__law_refusals an__law_refusals cd__law_refusals ct__law_refusals), sl__law_refusals⟩)
    (d__law_refusals : PySem.W.codeIn K cd__law_refusals "_law_refusals" = true)
    (k__law_refusals : PySem.W.keepIn K (.ref f__law_refusals) = true)
    (a_law : PySem.W.nsIn K mainGlobals "law" = some (some (.ref f_law)))
    (l_law : K.lookup f_law = some ⟨oc_law, od_law, .func (PySem.W.fnOf "law" "law" (defArgs s_law) (defBody s_law) (defScope s_law) .none kV_law dc_law pm_law an_law cd_law ct_law), sl_law⟩)
    (d_law : PySem.W.codeIn K cd_law "law" = true)
    (k_law : PySem.W.keepIn K (.ref f_law) = true)
    : ∃ fd : FuncData, (∀ (s : Shared) (v : Value), BindsTo s fd ⟨[v], []⟩ [("script", v)]) ∧ ∀ base : Heap, K.In base → base.Ns mainGlobals mg → FnOk P w K mg base (L2.CX P w) 15 fa fd ["script"] (spTop K) := by
  have e := hfa.symm.trans (PySem.W.mg_of X G a_law)
  cases e
  have M : ∀ {n : Str} {v : Value}, PySem.W.nsIn K mainGlobals n = some (some v) → mg n = some v := fun h => PySem.W.mg_of X G h
  have O : ∀ {n : Str}, PySem.W.nsIn K mainGlobals n = some none → mg n = none := fun h => PySem.W.mg_none_of X G h
  have T : Txt (⟨K, c_FloorError, c_BadNumber, c_BadPoint, c_BadCorner, c_Barred, c_BadSize, c_BadBounds, c_BadFloor, c_Root, c_Floor, c_Piece, c_VECTORS, c_ODD_PRESSES, c_EVEN_PRESSES, c_BARRING⟩ : Zs) mg :=
    { g_VECTORS := M r_VECTORS
      g_ODD_PRESSES := M r_ODD_PRESSES
      g_EVEN_PRESSES := M r_EVEN_PRESSES
      g_BARRING := M r_BARRING
      d_VECTORS := kd_ref kd_VECTORS
      d_ODD_PRESSES := kd_ref kd_ODD_PRESSES
      d_EVEN_PRESSES := kd_ref kd_EVEN_PRESSES
      d_BARRING := kd_ref kd_BARRING
      g_MOST_BOUNDS := (int_of gi_MOST_BOUNDS).imp fun u h => ⟨M h.1, h.2⟩
      g_MOST_LED := (int_of gi_MOST_LED).imp fun u h => ⟨M h.1, h.2⟩
      n_isinstance := O r_isinstance
      n_all := O r_all
      n_len := O r_len
      n_tuple := O r_tuple
      n_list := O r_list
      n_range := O r_range
      n_enumerate := O r_enumerate
      n_int := O r_int
      n_abs := O r_abs
      n_bool := O r_bool
      n_ValueError := O r_ValueError
      g_gcd := M r_gcd
      g_lcm := M r_lcm
      g_FloorError := M r_FloorError
      g_BadNumber := M r_BadNumber
      g_BadPoint := M r_BadPoint
      g_BadCorner := M r_BadCorner
      g_Barred := M r_Barred
      g_BadSize := M r_BadSize
      g_BadBounds := M r_BadBounds
      g_BadFloor := M r_BadFloor
      g_Root := M r_Root
      g_Floor := M r_Floor
      g_Piece := M r_Piece
      ki := ki_mk ⟨r_pg, r_hd, r_po, r_sa⟩ r_ca r_hm r_ic r_tc r_s1 r_s2
      nf_top := r_nt, nf_root := r_nr, nf_bottom := r_nb
      ow := ⟨r_sf, r_s1⟩
      ra := ⟨_, r_ra⟩
      rs := ⟨_, r_rs⟩
      rm := ⟨_, r_rm⟩
      c_Floor := ⟨o_pg_Floor, o_hd_Floor, o_po_Floor, o_sa_Floor⟩
      kf_Floor := ki_mk ⟨o_pg_Floor, o_hd_Floor, o_po_Floor, o_sa_Floor⟩ o_ca_Floor o_hm_Floor o_ic_Floor o_tc_Floor o_s1_Floor o_s2_Floor
      nf_Floor_shift := o_nf_Floor_shift
      nf_Floor__gauge := o_nf_Floor__gauge
      c_Piece := ⟨o_pg_Piece, o_hd_Piece, o_po_Piece, o_sa_Piece⟩
      kf_Piece := ki_mk ⟨o_pg_Piece, o_hd_Piece, o_po_Piece, o_sa_Piece⟩ o_ca_Piece o_hm_Piece o_ic_Piece o_tc_Piece o_s1_Piece o_s2_Piece
      nf_Piece_bounds := o_nf_Piece_bounds
      kc_Root_Floor := kit_no o_ic_Floor o_tc_Floor o_ms_Floor o_no_Root_Floor
      kc_Piece_Floor := kit_no o_ic_Floor o_tc_Floor o_ms_Floor o_no_Piece_Floor
      x_BadNumber := ⟨⟨nmBadNumber, qBadNumber, NBadNumber, bsBadNumber, _, snBadNumber, subBadNumber, abBadNumber, colBadNumber, ddBadNumber, m0BadNumber, m1BadNumber, m2BadNumber, m3BadNumber, m5BadNumber, e_L_BadNumber, rfl⟩, e_sa_BadNumber, e_e_BadNumber, e_t_BadNumber, e_k_BadNumber⟩
      xn_BadNumber := e_n_BadNumber
      xf_BadNumber := ⟨e_ga_BadNumber, e_gg_BadNumber, e_e_BadNumber, e_hd_BadNumber⟩
      xm_BadNumber := exm_mk e_e_BadNumber e_ic_BadNumber e_t_BadNumber e_s_BadNumber
      xi_BadNumber := ⟨e_ga_BadNumber, e_gg_BadNumber, e_e_BadNumber, e_hd_BadNumber, e_ca_BadNumber, rfl, rfl, e_hm_BadNumber⟩
      x_BadPoint := ⟨⟨nmBadPoint, qBadPoint, NBadPoint, bsBadPoint, _, snBadPoint, subBadPoint, abBadPoint, colBadPoint, ddBadPoint, m0BadPoint, m1BadPoint, m2BadPoint, m3BadPoint, m5BadPoint, e_L_BadPoint, rfl⟩, e_sa_BadPoint, e_e_BadPoint, e_t_BadPoint, e_k_BadPoint⟩
      xn_BadPoint := e_n_BadPoint
      xf_BadPoint := ⟨e_ga_BadPoint, e_gg_BadPoint, e_e_BadPoint, e_hd_BadPoint⟩
      xm_BadPoint := exm_mk e_e_BadPoint e_ic_BadPoint e_t_BadPoint e_s_BadPoint
      xi_BadPoint := ⟨e_ga_BadPoint, e_gg_BadPoint, e_e_BadPoint, e_hd_BadPoint, e_ca_BadPoint, rfl, rfl, e_hm_BadPoint⟩
      x_BadCorner := ⟨⟨nmBadCorner, qBadCorner, NBadCorner, bsBadCorner, _, snBadCorner, subBadCorner, abBadCorner, colBadCorner, ddBadCorner, m0BadCorner, m1BadCorner, m2BadCorner, m3BadCorner, m5BadCorner, e_L_BadCorner, rfl⟩, e_sa_BadCorner, e_e_BadCorner, e_t_BadCorner, e_k_BadCorner⟩
      xn_BadCorner := e_n_BadCorner
      xf_BadCorner := ⟨e_ga_BadCorner, e_gg_BadCorner, e_e_BadCorner, e_hd_BadCorner⟩
      xm_BadCorner := exm_mk e_e_BadCorner e_ic_BadCorner e_t_BadCorner e_s_BadCorner
      xi_BadCorner := ⟨e_ga_BadCorner, e_gg_BadCorner, e_e_BadCorner, e_hd_BadCorner, e_ca_BadCorner, rfl, rfl, e_hm_BadCorner⟩
      x_Barred := ⟨⟨nmBarred, qBarred, NBarred, bsBarred, _, snBarred, subBarred, abBarred, colBarred, ddBarred, m0Barred, m1Barred, m2Barred, m3Barred, m5Barred, e_L_Barred, rfl⟩, e_sa_Barred, e_e_Barred, e_t_Barred, e_k_Barred⟩
      xn_Barred := e_n_Barred
      xf_Barred := ⟨e_ga_Barred, e_gg_Barred, e_e_Barred, e_hd_Barred⟩
      xm_Barred := exm_mk e_e_Barred e_ic_Barred e_t_Barred e_s_Barred
      xi_Barred := ⟨e_ga_Barred, e_gg_Barred, e_e_Barred, e_hd_Barred, e_ca_Barred, rfl, rfl, e_hm_Barred⟩
      x_BadSize := ⟨⟨nmBadSize, qBadSize, NBadSize, bsBadSize, _, snBadSize, subBadSize, abBadSize, colBadSize, ddBadSize, m0BadSize, m1BadSize, m2BadSize, m3BadSize, m5BadSize, e_L_BadSize, rfl⟩, e_sa_BadSize, e_e_BadSize, e_t_BadSize, e_k_BadSize⟩
      xn_BadSize := e_n_BadSize
      xf_BadSize := ⟨e_ga_BadSize, e_gg_BadSize, e_e_BadSize, e_hd_BadSize⟩
      xm_BadSize := exm_mk e_e_BadSize e_ic_BadSize e_t_BadSize e_s_BadSize
      xi_BadSize := ⟨e_ga_BadSize, e_gg_BadSize, e_e_BadSize, e_hd_BadSize, e_ca_BadSize, rfl, rfl, e_hm_BadSize⟩
      x_BadBounds := ⟨⟨nmBadBounds, qBadBounds, NBadBounds, bsBadBounds, _, snBadBounds, subBadBounds, abBadBounds, colBadBounds, ddBadBounds, m0BadBounds, m1BadBounds, m2BadBounds, m3BadBounds, m5BadBounds, e_L_BadBounds, rfl⟩, e_sa_BadBounds, e_e_BadBounds, e_t_BadBounds, e_k_BadBounds⟩
      xn_BadBounds := e_n_BadBounds
      xf_BadBounds := ⟨e_ga_BadBounds, e_gg_BadBounds, e_e_BadBounds, e_hd_BadBounds⟩
      xm_BadBounds := exm_mk e_e_BadBounds e_ic_BadBounds e_t_BadBounds e_s_BadBounds
      xi_BadBounds := ⟨e_ga_BadBounds, e_gg_BadBounds, e_e_BadBounds, e_hd_BadBounds, e_ca_BadBounds, rfl, rfl, e_hm_BadBounds⟩
      x_BadFloor := ⟨⟨nmBadFloor, qBadFloor, NBadFloor, bsBadFloor, _, snBadFloor, subBadFloor, abBadFloor, colBadFloor, ddBadFloor, m0BadFloor, m1BadFloor, m2BadFloor, m3BadFloor, m5BadFloor, e_L_BadFloor, rfl⟩, e_sa_BadFloor, e_e_BadFloor, e_t_BadFloor, e_k_BadFloor⟩
      xn_BadFloor := e_n_BadFloor
      xf_BadFloor := ⟨e_ga_BadFloor, e_gg_BadFloor, e_e_BadFloor, e_hd_BadFloor⟩
      xm_BadFloor := exm_mk e_e_BadFloor e_ic_BadFloor e_t_BadFloor e_s_BadFloor
      xi_BadFloor := ⟨e_ga_BadFloor, e_gg_BadFloor, e_e_BadFloor, e_hd_BadFloor, e_ca_BadFloor, rfl, rfl, e_hm_BadFloor⟩
      xo_BadSize_BadFloor := exm_no e_e_BadFloor e_ic_BadFloor e_t_BadFloor e_o_BadSize_BadFloor
      xo_BadFloor_BadSize := exm_no e_e_BadSize e_ic_BadSize e_t_BadSize e_o_BadFloor_BadSize
      xk_BadSize_FloorError := kit_ref (t := .ref c_BadSize) b_ic b_tc e_b_BadSize
      xk_BadSize_ValueError := kit_type (C := c_BadSize) (T := "ValueError") (by decide +kernel) e_v_BadSize
      xk_BadFloor_FloorError := kit_ref (t := .ref c_BadFloor) b_ic b_tc e_b_BadFloor
      xk_BadFloor_BadSize := kit_no e_ic_BadSize e_t_BadSize e_s_BadSize e_o_BadFloor_BadSize
    }
  have F_is_integral := fun_mk (st := s_is_integral) l_is_integral d_is_integral k_is_integral
  have B_is_integral := F_is_integral.binds (ps := ["thing"]) fun _ _ _ _ _ _ us hl => match us, hl with | [_], _ => rfl
  have F_BadPoint_init := fun_mk (st := s_BadPoint_init) l_BadPoint_init d_BadPoint_init k_BadPoint_init
  have B_BadPoint_init := F_BadPoint_init.binds (ps := ["self", "point"]) fun _ _ _ _ _ _ us hl => match us, hl with | [_, _], _ => rfl
  have F_BadCorner_init := fun_mk (st := s_BadCorner_init) l_BadCorner_init d_BadCorner_init k_BadCorner_init
  have B_BadCorner_init := F_BadCorner_init.binds (ps := ["self", "corner"]) fun _ _ _ _ _ _ us hl => match us, hl with | [_, _], _ => rfl
  have F_Barred_init := fun_mk (st := s_Barred_init) l_Barred_init d_Barred_init k_Barred_init
  have B_Barred_init := F_Barred_init.binds (ps := ["self", "direction"]) fun _ _ _ _ _ _ us hl => match us, hl with | [_, _], _ => rfl
  have F_BadSize_init := fun_mk (st := s_BadSize_init) l_BadSize_init d_BadSize_init k_BadSize_init
  have B_BadSize_init := F_BadSize_init.binds (ps := ["self", "size"]) fun _ _ _ _ _ _ us hl => match us, hl with | [_, _], _ => rfl
  have F_BadBounds_init := fun_mk (st := s_BadBounds_init) l_BadBounds_init d_BadBounds_init k_BadBounds_init
  have B_BadBounds_init := F_BadBounds_init.binds (ps := ["self", "index"]) fun _ _ _ _ _ _ us hl => match us, hl with | [_, _], _ => rfl
  have F_BadFloor_init := fun_mk (st := s_BadFloor_init) l_BadFloor_init d_BadFloor_init k_BadFloor_init
  have B_BadFloor_init := F_BadFloor_init.binds (ps := ["self", "floor"]) fun _ _ _ _ _ _ us hl => match us, hl with | [_, _], _ => rfl
  have F_BadNumber_init := fun_mk (st := s_BadNumber_init) l_BadNumber_init d_BadNumber_init k_BadNumber_init
  have B_BadNumber_init := F_BadNumber_init.binds (ps := ["self", "value"]) fun _ _ _ _ _ _ us hl => match us, hl with | [_, _], _ => rfl
  have F_Root_init := fun_mk (st := s_Root_init) l_Root_init d_Root_init k_Root_init
  have B_Root_init := F_Root_init.binds (ps := ["self", "top", "root", "bottom"]) fun _ _ _ _ _ _ us hl => match us, hl with | [_, _, _, _], _ => rfl
  have F_Root_eq := fun_mk (st := s_Root_eq) l_Root_eq d_Root_eq k_Root_eq
  have B_Root_eq := F_Root_eq.binds (ps := ["self", "other"]) fun _ _ _ _ _ _ us hl => match us, hl with | [_, _], _ => rfl
  have F_Root_neg := fun_mk (st := s_Root_neg) l_Root_neg d_Root_neg k_Root_neg
  have B_Root_neg := F_Root_neg.binds (ps := ["self"]) fun _ _ _ _ _ _ us hl => match us, hl with | [_], _ => rfl
  have F_is_number := fun_mk (st := s_is_number) l_is_number d_is_number k_is_number
  have B_is_number := F_is_number.binds (ps := ["thing"]) fun _ _ _ _ _ _ us hl => match us, hl with | [_], _ => rfl
  have F_as_root := fun_mk (st := s_as_root) l_as_root d_as_root k_as_root
  have B_as_root := F_as_root.binds (ps := ["number"]) fun _ _ _ _ _ _ us hl => match us, hl with | [_], _ => rfl
  have F_surd_sign := fun_mk (st := s_surd_sign) l_surd_sign d_surd_sign k_surd_sign
  have B_surd_sign := F_surd_sign.binds (ps := ["top", "root"]) fun _ _ _ _ _ _ us hl => match us, hl with | [_, _], _ => rfl
  have F_Root_add := fun_mk (st := s_Root_add) l_Root_add d_Root_add k_Root_add
  have B_Root_add := F_Root_add.binds (ps := ["self", "other"]) fun _ _ _ _ _ _ us hl => match us, hl with | [_, _], _ => rfl
  have F_Root_sub := fun_mk (st := s_Root_sub) l_Root_sub d_Root_sub k_Root_sub
  have B_Root_sub := F_Root_sub.binds (ps := ["self", "other"]) fun _ _ _ _ _ _ us hl => match us, hl with | [_, _], _ => rfl
  have F_Root_mul := fun_mk (st := s_Root_mul) l_Root_mul d_Root_mul k_Root_mul
  have B_Root_mul := F_Root_mul.binds (ps := ["self", "other"]) fun _ _ _ _ _ _ us hl => match us, hl with | [_, _], _ => rfl
  have F_Root_radd := fun_mk (st := s_Root_radd) l_Root_radd d_Root_radd k_Root_radd
  have B_Root_radd := F_Root_radd.binds (ps := ["self", "other"]) fun _ _ _ _ _ _ us hl => match us, hl with | [_, _], _ => rfl
  have F_Root_rmul := fun_mk (st := s_Root_rmul) l_Root_rmul d_Root_rmul k_Root_rmul
  have B_Root_rmul := F_Root_rmul.binds (ps := ["self", "other"]) fun _ _ _ _ _ _ us hl => match us, hl with | [_, _], _ => rfl
  have F_Root_rsub := fun_mk (st := s_Root_rsub) l_Root_rsub d_Root_rsub k_Root_rsub
  have B_Root_rsub := F_Root_rsub.binds (ps := ["self", "other"]) fun _ _ _ _ _ _ us hl => match us, hl with | [_, _], _ => rfl
  have F_Root_over := fun_mk (st := s_Root_over) l_Root_over d_Root_over k_Root_over
  have B_Root_over := F_Root_over.binds (ps := ["self", "number"]) fun _ _ _ _ _ _ us hl => match us, hl with | [_, _], _ => rfl
  have F_Root_less := fun_mk (st := s_Root_less) l_Root_less d_Root_less k_Root_less
  have B_Root_less := F_Root_less.binds (ps := ["self", "number"]) fun _ _ _ _ _ _ us hl => match us, hl with | [_, _], _ => rfl
  have F_Root_sign := fun_mk (st := s_Root_sign) l_Root_sign d_Root_sign k_Root_sign
  have B_Root_sign := F_Root_sign.binds (ps := ["self"]) fun _ _ _ _ _ _ us hl => match us, hl with | [_], _ => rfl
  have F_is_corner := fun_mk (st := s_is_corner) l_is_corner d_is_corner k_is_corner
  have B_is_corner := F_is_corner.binds (ps := ["thing"]) fun _ _ _ _ _ _ us hl => match us, hl with | [_], _ => rfl
  have F_check_corner := fun_mk (st := s_check_corner) l_check_corner d_check_corner k_check_corner
  have B_check_corner := F_check_corner.binds (ps := ["corner"]) fun _ _ _ _ _ _ us hl => match us, hl with | [_], _ => rfl
  have F_step := fun_mk (st := s_step) l_step d_step k_step
  have B_step := F_step.binds (ps := ["corner", "direction", "many"]) fun _ _ _ _ _ _ us hl => match us, hl with | [_, _, _], _ => rfl
  have F_is_point := fun_mk (st := s_is_point) l_is_point d_is_point k_is_point
  have B_is_point := F_is_point.binds (ps := ["thing"]) fun _ _ _ _ _ _ us hl => match us, hl with | [_], _ => rfl
  have F_as_roots := fun_mk (st := s_as_roots) l_as_roots d_as_roots k_as_roots
  have B_as_roots := F_as_roots.binds (ps := ["point"]) fun _ _ _ _ _ _ us hl => match us, hl with | [_], _ => rfl
  have F_check_point := fun_mk (st := s_check_point) l_check_point d_check_point k_check_point
  have B_check_point := F_check_point.binds (ps := ["point"]) fun _ _ _ _ _ _ us hl => match us, hl with | [_], _ => rfl
  have F_is_half := fun_mk (st := s_is_half) l_is_half d_is_half k_is_half
  have B_is_half := F_is_half.binds (ps := ["top", "bottom"]) fun _ _ _ _ _ _ us hl => match us, hl with | [_, _], _ => rfl
  have F_bars_evenly := fun_mk (st := s_bars_evenly) l_bars_evenly d_bars_evenly k_bars_evenly
  have B_bars_evenly := F_bars_evenly.binds (ps := ["number"]) fun _ _ _ _ _ _ us hl => match us, hl with | [_], _ => rfl
  have F_bars_oddly := fun_mk (st := s_bars_oddly) l_bars_oddly d_bars_oddly k_bars_oddly
  have B_bars_oddly := F_bars_oddly.binds (ps := ["number"]) fun _ _ _ _ _ _ us hl => match us, hl with | [_], _ => rfl
  have F_barred := fun_mk (st := s_barred) l_barred d_barred k_barred
  have B_barred := F_barred.binds (ps := ["shift"]) fun _ _ _ _ _ _ us hl => match us, hl with | [_], _ => rfl
  have F_gauge_of := fun_mk (st := s_gauge_of) l_gauge_of d_gauge_of k_gauge_of
  have B_gauge_of := F_gauge_of.binds (ps := ["shift"]) fun _ _ _ _ _ _ us hl => match us, hl with | [_], _ => rfl
  have F_beside := fun_mk (st := s_beside) l_beside d_beside k_beside
  have B_beside := F_beside.binds (ps := ["top", "root", "edge_top", "edge_root"]) fun _ _ _ _ _ _ us hl => match us, hl with | [_, _, _, _], _ => rfl
  have F_in_window := fun_mk (st := s_in_window) l_in_window d_in_window k_in_window
  have B_in_window := F_in_window.binds (ps := ["gauge", "corner"]) fun _ _ _ _ _ _ us hl => match us, hl with | [_, _], _ => rfl
  have F_Floor_init := fun_mk (st := s_Floor_init) l_Floor_init d_Floor_init k_Floor_init
  have B_Floor_init := F_Floor_init.binds (ps := ["self", "shift"]) fun _ _ _ _ _ _ us hl => match us, hl with | [_, _], _ => rfl
  have F_Floor_has_corner := fun_mk (st := s_Floor_has_corner) l_Floor_has_corner d_Floor_has_corner k_Floor_has_corner
  have B_Floor_has_corner := F_Floor_has_corner.binds (ps := ["self", "corner"]) fun _ _ _ _ _ _ us hl => match us, hl with | [_, _], _ => rfl
  have F_Floor_eq := fun_mk (st := s_Floor_eq) l_Floor_eq d_Floor_eq k_Floor_eq
  have B_Floor_eq := F_Floor_eq.binds (ps := ["self", "other"]) fun _ _ _ _ _ _ us hl => match us, hl with | [_, _], _ => rfl
  have F_is_bound := fun_mk (st := s_is_bound) l_is_bound d_is_bound k_is_bound
  have B_is_bound := F_is_bound.binds (ps := ["thing"]) fun _ _ _ _ _ _ us hl => match us, hl with | [_], _ => rfl
  have F_check_bounds := fun_mk (st := s_check_bounds) l_check_bounds d_check_bounds k_check_bounds
  have B_check_bounds := F_check_bounds.binds (ps := ["bounds"]) fun _ _ _ _ _ _ us hl => match us, hl with | [_], _ => rfl
  have F_toward := fun_mk (st := s_toward) l_toward d_toward k_toward
  have B_toward := F_toward.binds (ps := ["d", "point"]) fun _ _ _ _ _ _ us hl => match us, hl with | [_, _], _ => rfl
  have F_least_indexes := fun_mk (st := s_least_indexes) l_least_indexes d_least_indexes k_least_indexes
  have B_least_indexes := F_least_indexes.binds (ps := ["bounds"]) fun _ _ _ _ _ _ us hl => match us, hl with | [_], _ => rfl
  have F_least_numbers := fun_mk (st := s_least_numbers) l_least_numbers d_least_numbers k_least_numbers
  have B_least_numbers := F_least_numbers.binds (ps := ["bounds"]) fun _ _ _ _ _ _ us hl => match us, hl with | [_], _ => rfl
  have F_over_common := fun_mk (st := s_over_common) l_over_common d_over_common k_over_common
  have B_over_common := F_over_common.binds (ps := ["numbers"]) fun _ _ _ _ _ _ us hl => match us, hl with | [_], _ => rfl
  have F_pair_sum := fun_mk (st := s_pair_sum) l_pair_sum d_pair_sum k_pair_sum
  have B_pair_sum := F_pair_sum.binds (ps := ["parts", "pairs"]) fun _ _ _ _ _ _ us hl => match us, hl with | [_, _], _ => rfl
  have F_presses_on := fun_mk (st := s_presses_on) l_presses_on d_presses_on k_presses_on
  have B_presses_on := F_presses_on.binds (ps := ["d"]) fun _ _ _ _ _ _ us hl => match us, hl with | [_], _ => rfl
  have F_barring_parts := fun_mk (st := s_barring_parts) l_barring_parts d_barring_parts k_barring_parts
  have B_barring_parts := F_barring_parts.binds (ps := ["pairs"]) fun _ _ _ _ _ _ us hl => match us, hl with | [_], _ => rfl
  have F_least_pair := fun_mk (st := s_least_pair) l_least_pair d_least_pair k_least_pair
  have B_least_pair := F_least_pair.binds (ps := ["d", "pairs"]) fun _ _ _ _ _ _ us hl => match us, hl with | [_, _], _ => rfl
  have F_tightened := fun_mk (st := s_tightened) l_tightened d_tightened k_tightened
  have B_tightened := F_tightened.binds (ps := ["numbers"]) fun _ _ _ _ _ _ us hl => match us, hl with | [_], _ => rfl
  have F_Piece_init := fun_mk (st := s_Piece_init) l_Piece_init d_Piece_init k_Piece_init
  have B_Piece_init := F_Piece_init.binds (ps := ["self", "bounds"]) fun _ _ _ _ _ _ us hl => match us, hl with | [_, _], _ => rfl
  have F_Piece_is_empty := fun_mk (st := s_Piece_is_empty) l_Piece_is_empty d_Piece_is_empty k_Piece_is_empty
  have B_Piece_is_empty := F_Piece_is_empty.binds (ps := ["self"]) fun _ _ _ _ _ _ us hl => match us, hl with | [_], _ => rfl
  have F_rows_of := fun_mk (st := s_rows_of) l_rows_of d_rows_of k_rows_of
  have B_rows_of := F_rows_of.binds (ps := ["piece"]) fun _ _ _ _ _ _ us hl => match us, hl with | [_], _ => rfl
  have F_Piece_has := fun_mk (st := s_Piece_has) l_Piece_has d_Piece_has k_Piece_has
  have B_Piece_has := F_Piece_has.binds (ps := ["self", "point"]) fun _ _ _ _ _ _ us hl => match us, hl with | [_, _], _ => rfl
  have F__law_dice := fun_mk (st := s__law_dice) l__law_dice d__law_dice k__law_dice
  have B__law_dice := F__law_dice.binds (ps := ["script"]) fun _ _ _ _ _ _ us hl => match us, hl with | [_], _ => rfl
  have F__law_draw := fun_mk (st := s__law_draw) l__law_draw d__law_draw k__law_draw
  have B__law_draw := F__law_draw.binds (ps := ["dice", "many"]) fun _ _ _ _ _ _ us hl => match us, hl with | [_, _], _ => rfl
  have F__law_wide := fun_mk (st := s__law_wide) l__law_wide d__law_wide k__law_wide
  have B__law_wide := F__law_wide.binds (ps := ["dice", "most"]) fun _ _ _ _ _ _ us hl => match us, hl with | [_, _], _ => rfl
  have F_check_floor := fun_mk (st := s_check_floor) l_check_floor d_check_floor k_check_floor
  have B_check_floor := F_check_floor.binds (ps := ["floor"]) fun _ _ _ _ _ _ us hl => match us, hl with | [_], _ => rfl
  have F_check_many := fun_mk (st := s_check_many) l_check_many d_check_many k_check_many
  have B_check_many := F_check_many.binds (ps := ["many"]) fun _ _ _ _ _ _ us hl => match us, hl with | [_], _ => rfl
  have F_factor := fun_mk (st := s_factor) l_factor d_factor k_factor
  have B_factor := F_factor.binds (ps := ["many"]) fun _ _ _ _ _ _ us hl => match us, hl with | [_], _ => rfl
  have F_scaled := fun_mk (st := s_scaled) l_scaled d_scaled k_scaled
  have B_scaled := F_scaled.binds (ps := ["number", "point"]) fun _ _ _ _ _ _ us hl => match us, hl with | [_, _], _ => rfl
  have F_led := fun_mk (st := s_led) l_led d_led k_led
  have B_led := F_led.binds (ps := ["floor", "many"]) fun _ _ _ _ _ _ us hl => match us, hl with | [_, _], _ => rfl
  have F_greater_floor := fun_mk (st := s_greater_floor) l_greater_floor d_greater_floor k_greater_floor
  have B_greater_floor := F_greater_floor.binds (ps := ["floor"]) fun _ _ _ _ _ _ us hl => match us, hl with | [_], _ => rfl
  have F_lesser_floor := fun_mk (st := s_lesser_floor) l_lesser_floor d_lesser_floor k_lesser_floor
  have B_lesser_floor := F_lesser_floor.binds (ps := ["floor"]) fun _ _ _ _ _ _ us hl => match us, hl with | [_], _ => rfl
  have F_led_up := fun_mk (st := s_led_up) l_led_up d_led_up k_led_up
  have B_led_up := F_led_up.binds (ps := ["floor", "many"]) fun _ _ _ _ _ _ us hl => match us, hl with | [_, _], _ => rfl
  have F__law_is_half := fun_mk (st := s__law_is_half) l__law_is_half d__law_is_half k__law_is_half
  have B__law_is_half := F__law_is_half.binds (ps := ["top", "bottom"]) fun _ _ _ _ _ _ us hl => match us, hl with | [_, _], _ => rfl
  have F__law_is_let := fun_mk (st := s__law_is_let) l__law_is_let d__law_is_let k__law_is_let
  have B__law_is_let := F__law_is_let.binds (ps := ["shift"]) fun _ _ _ _ _ _ us hl => match us, hl with | [_], _ => rfl
  have F__law_let := fun_mk (st := s__law_let) l__law_let d__law_let k__law_let
  have B__law_let := F__law_let.binds (ps := ["shift"]) fun _ _ _ _ _ _ us hl => match us, hl with | [_], _ => rfl
  have F__law_shift := fun_mk (st := s__law_shift) l__law_shift d__law_shift k__law_shift
  have B__law_shift := F__law_shift.binds (ps := ["dice"]) fun _ _ _ _ _ _ us hl => match us, hl with | [_], _ => rfl
  have F__law_led := fun_mk (st := s__law_led) l__law_led d__law_led k__law_led
  have B__law_led := F__law_led.binds (ps := ["shift", "many"]) fun _ _ _ _ _ _ us hl => match us, hl with | [_, _], _ => rfl
  have F__law_number := fun_mk (st := s__law_number) l__law_number d__law_number k__law_number
  have B__law_number := F__law_number.binds (ps := ["pair", "bottom", "plain"]) fun _ _ _ _ _ _ us hl => match us, hl with | [_, _, _], _ => rfl
  have F__law_point := fun_mk (st := s__law_point) l__law_point d__law_point k__law_point
  have B__law_point := F__law_point.binds (ps := ["shift", "plain"]) fun _ _ _ _ _ _ us hl => match us, hl with | [_, _], _ => rfl
  have F__law_is_integer := fun_mk (st := s__law_is_integer) l__law_is_integer d__law_is_integer k__law_is_integer
  have B__law_is_integer := F__law_is_integer.binds (ps := ["thing"]) fun _ _ _ _ _ _ us hl => match us, hl with | [_], _ => rfl
  have F__law_is_root := fun_mk (st := s__law_is_root) l__law_is_root d__law_is_root k__law_is_root
  have B__law_is_root := F__law_is_root.binds (ps := ["thing", "pair", "bottom"]) fun _ _ _ _ _ _ us hl => match us, hl with | [_, _, _], _ => rfl
  have F__law_is_floor := fun_mk (st := s__law_is_floor) l__law_is_floor d__law_is_floor k__law_is_floor
  have B__law_is_floor := F__law_is_floor.binds (ps := ["thing", "shift"]) fun _ _ _ _ _ _ us hl => match us, hl with | [_, _], _ => rfl
  have F_Piece_eq := fun_mk (st := s_Piece_eq) l_Piece_eq d_Piece_eq k_Piece_eq
  have B_Piece_eq := F_Piece_eq.binds (ps := ["self", "other"]) fun _ _ _ _ _ _ us hl => match us, hl with | [_, _], _ => rfl
  have F__law_no_floor := fun_mk (st := s__law_no_floor) l__law_no_floor d__law_no_floor k__law_no_floor
  have B__law_no_floor := F__law_no_floor.binds (ps := ["dice", "floor"]) fun _ _ _ _ _ _ us hl => match us, hl with | [_, _], _ => rfl
  have F__law_no_size := fun_mk (st := s__law_no_size) l__law_no_size d__law_no_size k__law_no_size
  have B__law_no_size := F__law_no_size.binds (ps := ["dice", "most"]) fun _ _ _ _ _ _ us hl => match us, hl with | [_, _], _ => rfl
  have F__law_told := fun_mk (st := s__law_told) l__law_told d__law_told k__law_told
  have B__law_told := F__law_told.binds (ps := ["thing", "many"]) fun _ _ _ _ _ _ us hl => match us, hl with | [_, _], _ => rfl
  have F__law_both_refused := fun_mk (st := s__law_both_refused) l__law_both_refused d__law_both_refused k__law_both_refused
  have B__law_both_refused := F__law_both_refused.binds (ps := ["thing"]) fun _ _ _ _ _ _ us hl => match us, hl with | [_], _ => rfl
  have F__law_refusals := fun_mk (st := s__law_refusals) l__law_refusals d__law_refusals k__law_refusals
  have B__law_refusals := F__law_refusals.binds (ps := ["dice", "floor", "many"]) fun _ _ _ _ _ _ us hl => match us, hl with | [_, _, _], _ => rfl
  have F_law := fun_mk (st := s_law) l_law d_law k_law
  refine ⟨PySem.W.fnOf "law" "law" (defArgs s_law) (defBody s_law) (defScope s_law) .none kV_law dc_law pm_law an_law cd_law ct_law, fun s v => .of_eq rfl, fun base _ _ => ?_⟩
  have h_is_integral := ok_is_integral (P := P) (w := w) (base := base) T  ⟨_, _, F_is_integral, B_is_integral, M a_is_integral⟩
  have h_BadPoint := ok_BadPoint_init (P := P) (w := w) (base := base) T  ⟨_, _, F_BadPoint_init, B_BadPoint_init, M r_BadPoint, a_BadPoint_init, t_BadPoint_init⟩
  have h_BadCorner := ok_BadCorner_init (P := P) (w := w) (base := base) T  ⟨_, _, F_BadCorner_init, B_BadCorner_init, M r_BadCorner, a_BadCorner_init, t_BadCorner_init⟩
  have h_Barred := ok_Barred_init (P := P) (w := w) (base := base) T  ⟨_, _, F_Barred_init, B_Barred_init, M r_Barred, a_Barred_init, t_Barred_init⟩
  have h_BadSize := ok_BadSize_init (P := P) (w := w) (base := base) T  ⟨_, _, F_BadSize_init, B_BadSize_init, M r_BadSize, a_BadSize_init, t_BadSize_init⟩
  have h_BadBounds := ok_BadBounds_init (P := P) (w := w) (base := base) T  ⟨_, _, F_BadBounds_init, B_BadBounds_init, M r_BadBounds, a_BadBounds_init, t_BadBounds_init⟩
  have h_BadFloor := ok_BadFloor_init (P := P) (w := w) (base := base) T  ⟨_, _, F_BadFloor_init, B_BadFloor_init, M r_BadFloor, a_BadFloor_init, t_BadFloor_init⟩
  have h_BadNumber := ok_BadNumber_init (P := P) (w := w) (base := base) T  ⟨_, _, F_BadNumber_init, B_BadNumber_init, M r_BadNumber, a_BadNumber_init, t_BadNumber_init⟩
  have h_Root := ok_Root_init (P := P) (w := w) (base := base) T h_BadNumber h_is_integral ⟨_, _, F_Root_init, B_Root_init, ⟨mk_Root_init, a_Root_init, i_Root_init, kc_Root_init⟩, M r_Root⟩
  have h_Root_eq := ok_Root_eq (P := P) (w := w) (base := base) T h_is_integral ⟨_, _, F_Root_eq, B_Root_eq, ⟨a_Root_eq, i_Root_eq, k_Root_eq⟩⟩
  have h_Root_neg := ok_Root_neg (P := P) (w := w) (base := base) T h_Root ⟨_, _, F_Root_neg, B_Root_neg, ⟨a_Root_neg, i_Root_neg, k_Root_neg⟩⟩
  have h_is_number := ok_is_number (P := P) (w := w) (base := base) T h_is_integral ⟨_, _, F_is_number, B_is_number, M a_is_number⟩
  have h_as_root := ok_as_root (P := P) (w := w) (base := base) T h_Root ⟨_, _, F_as_root, B_as_root, M a_as_root⟩
  have h_surd_sign := ok_surd_sign (P := P) (w := w) (base := base) T  ⟨_, _, F_surd_sign, B_surd_sign, M a_surd_sign⟩
  have h_Root_add := ok_Root_add (P := P) (w := w) (base := base) T h_Root h_as_root h_is_number ⟨_, _, F_Root_add, B_Root_add, ⟨a_Root_add, i_Root_add, k_Root_add⟩⟩
  have h_Root_sub := ok_Root_sub (P := P) (w := w) (base := base) T h_Root h_as_root h_is_number ⟨_, _, F_Root_sub, B_Root_sub, ⟨a_Root_sub, i_Root_sub, k_Root_sub⟩⟩
  have h_Root_mul := ok_Root_mul (P := P) (w := w) (base := base) T h_Root h_as_root h_is_number ⟨_, _, F_Root_mul, B_Root_mul, ⟨a_Root_mul, i_Root_mul, k_Root_mul⟩⟩
  have h_Root_radd := ok_Root_radd (P := P) (w := w) (base := base) T h_Root_add ⟨_, _, F_Root_radd, B_Root_radd, ⟨a_Root_radd, i_Root_radd, k_Root_radd⟩⟩
  have h_Root_rmul := ok_Root_rmul (P := P) (w := w) (base := base) T h_Root_mul ⟨_, _, F_Root_rmul, B_Root_rmul, ⟨a_Root_rmul, i_Root_rmul, k_Root_rmul⟩⟩
  have h_Root_rsub := ok_Root_rsub (P := P) (w := w) (base := base) T h_Root_add h_Root_neg ⟨_, _, F_Root_rsub, B_Root_rsub, ⟨a_Root_rsub, i_Root_rsub, k_Root_rsub⟩⟩
  have h_Root_over := ok_Root_over (P := P) (w := w) (base := base) T h_Root h_as_root h_is_number h_BadNumber h_Root_eq ⟨_, _, F_Root_over, B_Root_over, ⟨a_Root_over, i_Root_over, k_Root_over⟩⟩
  have h_Root_less := ok_Root_less (P := P) (w := w) (base := base) T h_surd_sign h_as_root h_is_number h_BadNumber ⟨_, _, F_Root_less, B_Root_less, ⟨a_Root_less, i_Root_less, k_Root_less⟩⟩
  have h_Root_sign := ok_Root_sign (P := P) (w := w) (base := base) T h_surd_sign ⟨_, _, F_Root_sign, B_Root_sign, ⟨a_Root_sign, i_Root_sign, k_Root_sign⟩⟩
  have h_is_corner := ok_is_corner (P := P) (w := w) (base := base) T h_is_integral ⟨_, _, F_is_corner, B_is_corner, M a_is_corner⟩
  have h_check_corner := ok_check_corner (P := P) (w := w) (base := base) T h_is_corner h_BadCorner ⟨_, _, F_check_corner, B_check_corner, M a_check_corner⟩
  have h_step := ok_step (P := P) (w := w) (base := base) T  ⟨_, _, F_step, B_step, M a_step⟩
  have h_is_point := ok_is_point (P := P) (w := w) (base := base) T h_is_number ⟨_, _, F_is_point, B_is_point, M a_is_point⟩
  have h_as_roots := ok_as_roots (P := P) (w := w) (base := base) T h_as_root ⟨_, _, F_as_roots, B_as_roots, M a_as_roots⟩
  have h_check_point := ok_check_point (P := P) (w := w) (base := base) T h_is_point h_BadPoint ⟨_, _, F_check_point, B_check_point, M a_check_point⟩
  have h_is_half := ok_is_half (P := P) (w := w) (base := base) T  ⟨_, _, F_is_half, B_is_half, M a_is_half⟩
  have h_bars_evenly := ok_bars_evenly (P := P) (w := w) (base := base) T h_is_half ⟨_, _, F_bars_evenly, B_bars_evenly, M a_bars_evenly⟩
  have h_bars_oddly := ok_bars_oddly (P := P) (w := w) (base := base) T h_is_half ⟨_, _, F_bars_oddly, B_bars_oddly, M a_bars_oddly⟩
  have h_barred := ok_barred (P := P) (w := w) (base := base) T h_bars_oddly h_bars_evenly h_as_roots h_check_point h_Root_add h_Root_radd h_Root_sub h_Root_rsub ⟨_, _, F_barred, B_barred, M a_barred⟩
  have h_gauge_of := ok_gauge_of (P := P) (w := w) (base := base) T  ⟨_, _, F_gauge_of, B_gauge_of, M a_gauge_of⟩
  have h_beside := ok_beside (P := P) (w := w) (base := base) T h_surd_sign ⟨_, _, F_beside, B_beside, M a_beside⟩
  have h_in_window := ok_in_window (P := P) (w := w) (base := base) T h_beside ⟨_, _, F_in_window, B_in_window, M a_in_window⟩
  have h_Floor := ok_Floor_init (P := P) (w := w) (base := base) T h_gauge_of h_as_roots h_Barred h_barred h_check_point ⟨_, _, F_Floor_init, B_Floor_init, ⟨mk_Floor_init, a_Floor_init, i_Floor_init, kc_Floor_init⟩, M r_Floor⟩
  have h_Floor_has_corner := ok_Floor_has_corner (P := P) (w := w) (base := base) T h_in_window h_check_corner ⟨_, _, F_Floor_has_corner, B_Floor_has_corner, ⟨a_Floor_has_corner, i_Floor_has_corner, k_Floor_has_corner⟩⟩
  have h_Floor_eq := ok_Floor_eq (P := P) (w := w) (base := base) T h_Root_eq ⟨_, _, F_Floor_eq, B_Floor_eq, ⟨a_Floor_eq, i_Floor_eq, k_Floor_eq⟩⟩
  have h_is_bound := ok_is_bound (P := P) (w := w) (base := base) T h_is_number h_is_integral ⟨_, _, F_is_bound, B_is_bound, M a_is_bound⟩
  have h_check_bounds := ok_check_bounds (P := P) (w := w) (base := base) T h_is_bound h_BadBounds ⟨_, _, F_check_bounds, B_check_bounds, M a_check_bounds⟩
  have h_toward := ok_toward (P := P) (w := w) (base := base) T h_as_root h_Root_add h_Root_radd h_Root_mul h_Root_rmul ⟨_, _, F_toward, B_toward, M a_toward⟩
  have h_least_indexes := ok_least_indexes (P := P) (w := w) (base := base) T h_as_root h_Root_less ⟨_, _, F_least_indexes, B_least_indexes, M a_least_indexes⟩
  have h_least_numbers := ok_least_numbers (P := P) (w := w) (base := base) T h_least_indexes h_as_root ⟨_, _, F_least_numbers, B_least_numbers, M a_least_numbers⟩
  have h_over_common := ok_over_common (P := P) (w := w) (base := base) T  ⟨_, _, F_over_common, B_over_common, M a_over_common⟩
  have h_pair_sum := ok_pair_sum (P := P) (w := w) (base := base) T  ⟨_, _, F_pair_sum, B_pair_sum, M a_pair_sum⟩
  have h_presses_on := ok_presses_on (P := P) (w := w) (base := base) T  ⟨_, _, F_presses_on, B_presses_on, M a_presses_on⟩
  have h_barring_parts := ok_barring_parts (P := P) (w := w) (base := base) T h_surd_sign h_pair_sum ⟨_, _, F_barring_parts, B_barring_parts, M a_barring_parts⟩
  have h_least_pair := ok_least_pair (P := P) (w := w) (base := base) T h_presses_on h_surd_sign h_pair_sum ⟨_, _, F_least_pair, B_least_pair, M a_least_pair⟩
  have h_tightened := ok_tightened (P := P) (w := w) (base := base) T h_Root h_least_pair h_barring_parts h_over_common ⟨_, _, F_tightened, B_tightened, M a_tightened⟩
  have h_Piece := ok_Piece_init (P := P) (w := w) (base := base) T h_tightened h_least_numbers h_check_bounds ⟨_, _, F_Piece_init, B_Piece_init, ⟨mk_Piece_init, a_Piece_init, i_Piece_init, kc_Piece_init⟩, M r_Piece⟩
  have h_Piece_is_empty := ok_Piece_is_empty (P := P) (w := w) (base := base) T  ⟨_, _, F_Piece_is_empty, B_Piece_is_empty, ⟨a_Piece_is_empty, i_Piece_is_empty, k_Piece_is_empty⟩⟩
  have h_rows_of := ok_rows_of (P := P) (w := w) (base := base) T h_Piece_is_empty ⟨_, _, F_rows_of, B_rows_of, M a_rows_of⟩
  have h_Piece_has := ok_Piece_has (P := P) (w := w) (base := base) T h_rows_of h_toward h_Root_less ⟨_, _, F_Piece_has, B_Piece_has, ⟨a_Piece_has, i_Piece_has, k_Piece_has⟩⟩
  have h__law_dice := ok__law_dice (P := P) (w := w) (base := base) T  ⟨_, _, F__law_dice, B__law_dice, M a__law_dice⟩
  have h__law_draw := ok__law_draw (P := P) (w := w) (base := base) T  ⟨_, _, F__law_draw, B__law_draw, M a__law_draw⟩
  have h__law_wide := ok__law_wide (P := P) (w := w) (base := base) T h__law_draw ⟨_, _, F__law_wide, B__law_wide, M a__law_wide⟩
  have h_check_floor := ok_check_floor (P := P) (w := w) (base := base) T h_BadFloor ⟨_, _, F_check_floor, B_check_floor, M a_check_floor⟩
  have h_check_many := ok_check_many (P := P) (w := w) (base := base) T h_is_integral h_BadSize ⟨_, _, F_check_many, B_check_many, M a_check_many⟩
  have h_factor := ok_factor (P := P) (w := w) (base := base) T h_Root h_Root_mul h_Root_rmul ⟨_, _, F_factor, B_factor, M a_factor⟩
  have h_scaled := ok_scaled (P := P) (w := w) (base := base) T h_as_root h_Root_mul h_Root_rmul ⟨_, _, F_scaled, B_scaled, M a_scaled⟩
  have h_led := ok_led (P := P) (w := w) (base := base) T h_Floor h_scaled h_factor h_check_floor ⟨_, _, F_led, B_led, M a_led⟩
  have h_greater_floor := ok_greater_floor (P := P) (w := w) (base := base) T h_led ⟨_, _, F_greater_floor, B_greater_floor, M a_greater_floor⟩
  have h_lesser_floor := ok_lesser_floor (P := P) (w := w) (base := base) T h_led ⟨_, _, F_lesser_floor, B_lesser_floor, M a_lesser_floor⟩
  have h_led_up := ok_led_up (P := P) (w := w) (base := base) T h_led h_check_many h_check_floor ⟨_, _, F_led_up, B_led_up, M a_led_up⟩
  have h__law_is_half := ok__law_is_half (P := P) (w := w) (base := base) T  ⟨_, _, F__law_is_half, B__law_is_half, M a__law_is_half⟩
  have h__law_is_let := ok__law_is_let (P := P) (w := w) (base := base) T h__law_is_half ⟨_, _, F__law_is_let, B__law_is_let, M a__law_is_let⟩
  have h__law_let := ok__law_let (P := P) (w := w) (base := base) T h__law_is_let ⟨_, _, F__law_let, B__law_let, M a__law_let⟩
  have h__law_shift := ok__law_shift (P := P) (w := w) (base := base) T h__law_let h__law_wide h__law_draw ⟨_, _, F__law_shift, B__law_shift, M a__law_shift⟩
  have h__law_led := ok__law_led (P := P) (w := w) (base := base) T  ⟨_, _, F__law_led, B__law_led, M a__law_led⟩
  have h__law_number := ok__law_number (P := P) (w := w) (base := base) T h_Root ⟨_, _, F__law_number, B__law_number, M a__law_number⟩
  have h__law_point := ok__law_point (P := P) (w := w) (base := base) T h__law_number ⟨_, _, F__law_point, B__law_point, M a__law_point⟩
  have h__law_is_integer := ok__law_is_integer (P := P) (w := w) (base := base) T  ⟨_, _, F__law_is_integer, B__law_is_integer, M a__law_is_integer⟩
  have h__law_is_root := ok__law_is_root (P := P) (w := w) (base := base) T h__law_is_integer ⟨_, _, F__law_is_root, B__law_is_root, M a__law_is_root⟩
  have h__law_is_floor := ok__law_is_floor (P := P) (w := w) (base := base) T h__law_is_root ⟨_, _, F__law_is_floor, B__law_is_floor, M a__law_is_floor⟩
  have h_Piece_eq := ok_Piece_eq (P := P) (w := w) (base := base) T  ⟨_, _, F_Piece_eq, B_Piece_eq, ⟨a_Piece_eq, i_Piece_eq, k_Piece_eq⟩⟩
  have h__law_no_floor := ok__law_no_floor (P := P) (w := w) (base := base) T h__law_draw h_Piece ⟨_, _, F__law_no_floor, B__law_no_floor, M a__law_no_floor⟩
  have h__law_no_size := ok__law_no_size (P := P) (w := w) (base := base) T h__law_draw h_Root ⟨_, _, F__law_no_size, B__law_no_size, M a__law_no_size⟩
  have h__law_told := ok__law_told (P := P) (w := w) (base := base) T h_led_up ⟨_, _, F__law_told, B__law_told, M a__law_told⟩
  have h__law_both_refused := ok__law_both_refused (P := P) (w := w) (base := base) T h_lesser_floor h_greater_floor h_Root_eq h_Piece_eq ⟨_, _, F__law_both_refused, B__law_both_refused, M a__law_both_refused⟩
  have h__law_refusals := ok__law_refusals (P := P) (w := w) (base := base) T h__law_told h__law_no_size h__law_both_refused h__law_no_floor h__law_draw h_Root_eq h_Piece_eq ⟨_, _, F__law_refusals, B__law_refusals, M a__law_refusals⟩
  exact (ok_law (P := P) (w := w) (base := base) T h__law_is_floor h_led_up h_greater_floor h_lesser_floor h__law_led h__law_told h__law_refusals h_Floor h__law_point h__law_draw h__law_shift h__law_dice h_Floor_eq F_law).imp fun vs H Q E hs => hs
theorem q_gi_MOST_BOUNDS {K : PySem.W.Frag} (hb : (bsK K).all id = true) : isIntV (PySem.W.nsIn K mainGlobals "MOST_BOUNDS") 400 = true := dok (nthB hb 0)
theorem q_gi_MOST_LED {K : PySem.W.Frag} (hb : (bsK K).all id = true) : isIntV (PySem.W.nsIn K mainGlobals "MOST_LED") 40 = true := dok (nthB hb 1)
theorem q_r_VECTORS {K : PySem.W.Frag} (hb : (bsK K).all id = true) : PySem.W.nsIn K mainGlobals "VECTORS" = some (some (.ref (A_c_VECTORS K))) := isR_ok (nthB hb 2)
theorem q_r_ODD_PRESSES {K : PySem.W.Frag} (hb : (bsK K).all id = true) : PySem.W.nsIn K mainGlobals "ODD_PRESSES" = some (some (.ref (A_c_ODD_PRESSES K))) := isR_ok (nthB hb 3)
theorem q_r_EVEN_PRESSES {K : PySem.W.Frag} (hb : (bsK K).all id = true) : PySem.W.nsIn K mainGlobals "EVEN_PRESSES" = some (some (.ref (A_c_EVEN_PRESSES K))) := isR_ok (nthB hb 4)
theorem q_r_BARRING {K : PySem.W.Frag} (hb : (bsK K).all id = true) : PySem.W.nsIn K mainGlobals "BARRING" = some (some (.ref (A_c_BARRING K))) := isR_ok (nthB hb 5)
theorem q_kd_VECTORS {K : PySem.W.Frag} (hb : (bsK K).all id = true) : kdB K 8 (.ref (A_c_VECTORS K)) (.tuple [.tuple [.int 1, .int 0], .tuple [.int 1, .int 1], .tuple [.int 0, .int 1], .tuple [.int (-1), .int 1], .tuple [.int (-1), .int 0], .tuple [.int (-1), .int (-1)], .tuple [.int 0, .int (-1)], .tuple [.int 1, .int (-1)]]) = true := dok (nthB hb 6)
theorem q_kd_ODD_PRESSES {K : PySem.W.Frag} (hb : (bsK K).all id = true) : kdB K 8 (.ref (A_c_ODD_PRESSES K)) (.tuple [.tuple [.int 1, .tuple [.tuple [.int 1, .int 1]]], .tuple [.int 1, .tuple [.tuple [.int 0, .int 1], .tuple [.int 2, .int 1]]], .tuple [.int 1, .tuple [.tuple [.int 0, .int 2], .tuple [.int 3, .int 1]]], .tuple [.int 1, .tuple [.tuple [.int 2, .int 2], .tuple [.int 7, .int 1]]]]) = true := dok (nthB hb 7)
theorem q_kd_EVEN_PRESSES {K : PySem.W.Frag} (hb : (bsK K).all id = true) : kdB K 8 (.ref (A_c_EVEN_PRESSES K)) (.tuple [.tuple [.int 1, .tuple [.tuple [.int 0, .int 1]]], .tuple [.int 2, .tuple [.tuple [.int 1, .int 1], .tuple [.int 7, .int 1]]], .tuple [.int 1, .tuple [.tuple [.int 2, .int 1], .tuple [.int 7, .int 1]]], .tuple [.int 1, .tuple [.tuple [.int 1, .int 1], .tuple [.int 6, .int 1]]]]) = true := dok (nthB hb 8)
theorem q_kd_BARRING {K : PySem.W.Frag} (hb : (bsK K).all id = true) : kdB K 8 (.ref (A_c_BARRING K)) (.tuple [.tuple [.tuple [.int 0, .int 1], .tuple [.int 4, .int 1]], .tuple [.tuple [.int 1, .int 1], .tuple [.int 5, .int 1]], .tuple [.tuple [.int 2, .int 1], .tuple [.int 6, .int 1]], .tuple [.tuple [.int 3, .int 1], .tuple [.int 7, .int 1]], .tuple [.tuple [.int 0, .int 1], .tuple [.int 3, .int 1], .tuple [.int 6, .int 1]], .tuple [.tuple [.int 1, .int 1], .tuple [.int 4, .int 2], .tuple [.int 7, .int 1]], .tuple [.tuple [.int 0, .int 1], .tuple [.int 2, .int 1], .tuple [.int 5, .int 1]], .tuple [.tuple [.int 1, .int 1], .tuple [.int 3, .int 1], .tuple [.int 6, .int 2]], .tuple [.tuple [.int 2, .int 1], .tuple [.int 4, .int 1], .tuple [.int 7, .int 1]], .tuple [.tuple [.int 0, .int 2], .tuple [.int 3, .int 1], .tuple [.int 5, .int 1]], .tuple [.tuple [.int 1, .int 1], .tuple [.int 4, .int 1], .tuple [.int 6, .int 1]], .tuple [.tuple [.int 2, .int 2], .tuple [.int 5, .int 1], .tuple [.int 7, .int 1]]]) = true := dok (nthB hb 9)
theorem q_r_FloorError {K : PySem.W.Frag} (hb : (bsK K).all id = true) : PySem.W.nsIn K mainGlobals "FloorError" = some (some (.ref (A_c_FloorError K))) := isR_ok (nthB hb 10)
theorem q_r_BadNumber {K : PySem.W.Frag} (hb : (bsK K).all id = true) : PySem.W.nsIn K mainGlobals "BadNumber" = some (some (.ref (A_c_BadNumber K))) := isR_ok (nthB hb 11)
theorem q_r_BadPoint {K : PySem.W.Frag} (hb : (bsK K).all id = true) : PySem.W.nsIn K mainGlobals "BadPoint" = some (some (.ref (A_c_BadPoint K))) := isR_ok (nthB hb 12)
theorem q_r_BadCorner {K : PySem.W.Frag} (hb : (bsK K).all id = true) : PySem.W.nsIn K mainGlobals "BadCorner" = some (some (.ref (A_c_BadCorner K))) := isR_ok (nthB hb 13)
theorem q_r_Barred {K : PySem.W.Frag} (hb : (bsK K).all id = true) : PySem.W.nsIn K mainGlobals "Barred" = some (some (.ref (A_c_Barred K))) := isR_ok (nthB hb 14)
theorem q_r_BadSize {K : PySem.W.Frag} (hb : (bsK K).all id = true) : PySem.W.nsIn K mainGlobals "BadSize" = some (some (.ref (A_c_BadSize K))) := isR_ok (nthB hb 15)
theorem q_r_BadBounds {K : PySem.W.Frag} (hb : (bsK K).all id = true) : PySem.W.nsIn K mainGlobals "BadBounds" = some (some (.ref (A_c_BadBounds K))) := isR_ok (nthB hb 16)
theorem q_r_BadFloor {K : PySem.W.Frag} (hb : (bsK K).all id = true) : PySem.W.nsIn K mainGlobals "BadFloor" = some (some (.ref (A_c_BadFloor K))) := isR_ok (nthB hb 17)
theorem q_r_Root {K : PySem.W.Frag} (hb : (bsK K).all id = true) : PySem.W.nsIn K mainGlobals "Root" = some (some (.ref (A_c_Root K))) := isR_ok (nthB hb 18)
theorem q_r_Floor {K : PySem.W.Frag} (hb : (bsK K).all id = true) : PySem.W.nsIn K mainGlobals "Floor" = some (some (.ref (A_c_Floor K))) := isR_ok (nthB hb 19)
theorem q_r_Piece {K : PySem.W.Frag} (hb : (bsK K).all id = true) : PySem.W.nsIn K mainGlobals "Piece" = some (some (.ref (A_c_Piece K))) := isR_ok (nthB hb 20)
theorem q_r_gcd {K : PySem.W.Frag} (hb : (bsK K).all id = true) : PySem.W.nsIn K mainGlobals "gcd" = some (some (.builtin "math.gcd")) := dok (nthB hb 21)
theorem q_r_lcm {K : PySem.W.Frag} (hb : (bsK K).all id = true) : PySem.W.nsIn K mainGlobals "lcm" = some (some (.builtin "math.lcm")) := dok (nthB hb 22)
theorem q_r_isinstance {K : PySem.W.Frag} (hb : (bsK K).all id = true) : PySem.W.nsIn K mainGlobals "isinstance" = some none := dok (nthB hb 23)
theorem q_r_all {K : PySem.W.Frag} (hb : (bsK K).all id = true) : PySem.W.nsIn K mainGlobals "all" = some none := dok (nthB hb 24)
theorem q_r_len {K : PySem.W.Frag} (hb : (bsK K).all id = true) : PySem.W.nsIn K mainGlobals "len" = some none := dok (nthB hb 25)
theorem q_r_tuple {K : PySem.W.Frag} (hb : (bsK K).all id = true) : PySem.W.nsIn K mainGlobals "tuple" = some none := dok (nthB hb 26)
theorem q_r_list {K : PySem.W.Frag} (hb : (bsK K).all id = true) : PySem.W.nsIn K mainGlobals "list" = some none := dok (nthB hb 27)
theorem q_r_range {K : PySem.W.Frag} (hb : (bsK K).all id = true) : PySem.W.nsIn K mainGlobals "range" = some none := dok (nthB hb 28)
theorem q_r_enumerate {K : PySem.W.Frag} (hb : (bsK K).all id = true) : PySem.W.nsIn K mainGlobals "enumerate" = some none := dok (nthB hb 29)
theorem q_r_int {K : PySem.W.Frag} (hb : (bsK K).all id = true) : PySem.W.nsIn K mainGlobals "int" = some none := dok (nthB hb 30)
theorem q_r_abs {K : PySem.W.Frag} (hb : (bsK K).all id = true) : PySem.W.nsIn K mainGlobals "abs" = some none := dok (nthB hb 31)
theorem q_r_bool {K : PySem.W.Frag} (hb : (bsK K).all id = true) : PySem.W.nsIn K mainGlobals "bool" = some none := dok (nthB hb 32)
theorem q_r_ValueError {K : PySem.W.Frag} (hb : (bsK K).all id = true) : PySem.W.nsIn K mainGlobals "ValueError" = some none := dok (nthB hb 33)
theorem q_r_pg {K : PySem.W.Frag} (hb : (bsK K).all id = true) : PySem.W.plainGet K (A_c_Root K) Str.empty = true := dok (nthB hb 34)
theorem q_r_hd {K : PySem.W.Frag} (hb : (bsK K).all id = true) : PySem.W.hasDictIn K (A_c_Root K) = true := dok (nthB hb 35)
theorem q_r_po {K : PySem.W.Frag} (hb : (bsK K).all id = true) : PySem.W.plainOver K (A_c_Root K) = true := dok (nthB hb 36)
theorem q_r_sa {K : PySem.W.Frag} (hb : (bsK K).all id = true) : PySem.W.findIn K (.ref (A_c_Root K)) "__setattr__" = some (some (.builtin "object.__setattr__")) := dok (nthB hb 37)
theorem q_r_ca {K : PySem.W.Frag} (hb : (bsK K).all id = true) : PySem.W.findIn K (.ref (A_c_Root K)) "__class__" = some (some (.builtin "object.__class__")) := dok (nthB hb 38)
theorem q_r_hm {K : PySem.W.Frag} (hb : (bsK K).all id = true) : PySem.W.mroIn K (A_c_Root K) (.type "object") = some true := dok (nthB hb 39)
theorem q_r_ic {K : PySem.W.Frag} (hb : (bsK K).all id = true) : PySem.W.isClsIn K (A_c_Root K) = true := dok (nthB hb 40)
theorem q_r_tc {K : PySem.W.Frag} (hb : (bsK K).all id = true) : PySem.W.typeIn K (.ref (A_c_Root K)) = some (.type "type") := dok (nthB hb 41)
theorem q_r_s1 {K : PySem.W.Frag} (hb : (bsK K).all id = true) : PySem.W.mroIn K (A_c_Root K) (.type "int") = some false := dok (nthB hb 42)
theorem q_r_s2 {K : PySem.W.Frag} (hb : (bsK K).all id = true) : PySem.W.mroIn K (A_c_Root K) (.type "bool") = some false := dok (nthB hb 43)
theorem q_r_nt {K : PySem.W.Frag} (hb : (bsK K).all id = true) : PySem.W.findIn K (.ref (A_c_Root K)) "top" = some none := dok (nthB hb 44)
theorem q_r_nr {K : PySem.W.Frag} (hb : (bsK K).all id = true) : PySem.W.findIn K (.ref (A_c_Root K)) "root" = some none := dok (nthB hb 45)
theorem q_r_nb {K : PySem.W.Frag} (hb : (bsK K).all id = true) : PySem.W.findIn K (.ref (A_c_Root K)) "bottom" = some none := dok (nthB hb 46)
theorem q_r_sf {K : PySem.W.Frag} (hb : (bsK K).all id = true) : PySem.W.selfFirst K (A_c_Root K) = true := dok (nthB hb 47)
theorem q_r_ra {K : PySem.W.Frag} (hb : (bsK K).all id = true) : PySem.W.findIn K (.ref (A_c_Root K)) "__radd__" = some (some (.ref (A_gAX K))) := isR_ok (nthB hb 48)
theorem q_r_rs {K : PySem.W.Frag} (hb : (bsK K).all id = true) : PySem.W.findIn K (.ref (A_c_Root K)) "__rsub__" = some (some (.ref (A_gSX K))) := isR_ok (nthB hb 49)
theorem q_r_rm {K : PySem.W.Frag} (hb : (bsK K).all id = true) : PySem.W.findIn K (.ref (A_c_Root K)) "__rmul__" = some (some (.ref (A_gMX K))) := isR_ok (nthB hb 50)
theorem q_o_pg_Floor {K : PySem.W.Frag} (hb : (bsK K).all id = true) : PySem.W.plainGet K (A_c_Floor K) Str.empty = true := dok (nthB hb 51)
theorem q_o_hd_Floor {K : PySem.W.Frag} (hb : (bsK K).all id = true) : PySem.W.hasDictIn K (A_c_Floor K) = true := dok (nthB hb 52)
theorem q_o_po_Floor {K : PySem.W.Frag} (hb : (bsK K).all id = true) : PySem.W.plainOver K (A_c_Floor K) = true := dok (nthB hb 53)
theorem q_o_sa_Floor {K : PySem.W.Frag} (hb : (bsK K).all id = true) : PySem.W.findIn K (.ref (A_c_Floor K)) "__setattr__" = some (some (.builtin "object.__setattr__")) := dok (nthB hb 54)
theorem q_o_ca_Floor {K : PySem.W.Frag} (hb : (bsK K).all id = true) : PySem.W.findIn K (.ref (A_c_Floor K)) "__class__" = some (some (.builtin "object.__class__")) := dok (nthB hb 55)
theorem q_o_hm_Floor {K : PySem.W.Frag} (hb : (bsK K).all id = true) : PySem.W.mroIn K (A_c_Floor K) (.type "object") = some true := dok (nthB hb 56)
theorem q_o_ic_Floor {K : PySem.W.Frag} (hb : (bsK K).all id = true) : PySem.W.isClsIn K (A_c_Floor K) = true := dok (nthB hb 57)
theorem q_o_tc_Floor {K : PySem.W.Frag} (hb : (bsK K).all id = true) : PySem.W.typeIn K (.ref (A_c_Floor K)) = some (.type "type") := dok (nthB hb 58)
theorem q_o_s1_Floor {K : PySem.W.Frag} (hb : (bsK K).all id = true) : PySem.W.mroIn K (A_c_Floor K) (.type "int") = some false := dok (nthB hb 59)
theorem q_o_s2_Floor {K : PySem.W.Frag} (hb : (bsK K).all id = true) : PySem.W.mroIn K (A_c_Floor K) (.type "bool") = some false := dok (nthB hb 60)
theorem q_o_nf_Floor_shift {K : PySem.W.Frag} (hb : (bsK K).all id = true) : PySem.W.findIn K (.ref (A_c_Floor K)) "shift" = some none := dok (nthB hb 61)
theorem q_o_nf_Floor__gauge {K : PySem.W.Frag} (hb : (bsK K).all id = true) : PySem.W.findIn K (.ref (A_c_Floor K)) "_gauge" = some none := dok (nthB hb 62)
theorem q_o_pg_Piece {K : PySem.W.Frag} (hb : (bsK K).all id = true) : PySem.W.plainGet K (A_c_Piece K) Str.empty = true := dok (nthB hb 63)
theorem q_o_hd_Piece {K : PySem.W.Frag} (hb : (bsK K).all id = true) : PySem.W.hasDictIn K (A_c_Piece K) = true := dok (nthB hb 64)
theorem q_o_po_Piece {K : PySem.W.Frag} (hb : (bsK K).all id = true) : PySem.W.plainOver K (A_c_Piece K) = true := dok (nthB hb 65)
theorem q_o_sa_Piece {K : PySem.W.Frag} (hb : (bsK K).all id = true) : PySem.W.findIn K (.ref (A_c_Piece K)) "__setattr__" = some (some (.builtin "object.__setattr__")) := dok (nthB hb 66)
theorem q_o_ca_Piece {K : PySem.W.Frag} (hb : (bsK K).all id = true) : PySem.W.findIn K (.ref (A_c_Piece K)) "__class__" = some (some (.builtin "object.__class__")) := dok (nthB hb 67)
theorem q_o_hm_Piece {K : PySem.W.Frag} (hb : (bsK K).all id = true) : PySem.W.mroIn K (A_c_Piece K) (.type "object") = some true := dok (nthB hb 68)
theorem q_o_ic_Piece {K : PySem.W.Frag} (hb : (bsK K).all id = true) : PySem.W.isClsIn K (A_c_Piece K) = true := dok (nthB hb 69)
theorem q_o_tc_Piece {K : PySem.W.Frag} (hb : (bsK K).all id = true) : PySem.W.typeIn K (.ref (A_c_Piece K)) = some (.type "type") := dok (nthB hb 70)
theorem q_o_s1_Piece {K : PySem.W.Frag} (hb : (bsK K).all id = true) : PySem.W.mroIn K (A_c_Piece K) (.type "int") = some false := dok (nthB hb 71)
theorem q_o_s2_Piece {K : PySem.W.Frag} (hb : (bsK K).all id = true) : PySem.W.mroIn K (A_c_Piece K) (.type "bool") = some false := dok (nthB hb 72)
theorem q_o_nf_Piece_bounds {K : PySem.W.Frag} (hb : (bsK K).all id = true) : PySem.W.findIn K (.ref (A_c_Piece K)) "bounds" = some none := dok (nthB hb 73)
theorem q_o_ms_Floor {K : PySem.W.Frag} (hb : (bsK K).all id = true) : PySem.W.mroIn K (A_c_Floor K) (.ref (A_c_Floor K)) = some true := dok (nthB hb 74)
theorem q_o_no_Root_Floor {K : PySem.W.Frag} (hb : (bsK K).all id = true) : PySem.W.mroIn K (A_c_Root K) (.ref (A_c_Floor K)) = some false := dok (nthB hb 75)
theorem q_o_no_Piece_Floor {K : PySem.W.Frag} (hb : (bsK K).all id = true) : PySem.W.mroIn K (A_c_Piece K) (.ref (A_c_Floor K)) = some false := dok (nthB hb 76)
theorem q_e_sa_BadNumber {K : PySem.W.Frag} (hb : (bsK K).all id = true) : PySem.W.findIn K (.ref (A_c_BadNumber K)) "__setattr__" = some (some (.builtin "object.__setattr__")) := dok (nthB hb 78)
theorem q_e_e_BadNumber {K : PySem.W.Frag} (hb : (bsK K).all id = true) : PySem.W.mroIn K (A_c_BadNumber K) (.type "BaseException") = some true := dok (nthB hb 79)
theorem q_e_t_BadNumber {K : PySem.W.Frag} (hb : (bsK K).all id = true) : PySem.W.typeIn K (.ref (A_c_BadNumber K)) = some (.type "type") := dok (nthB hb 80)
theorem q_e_k_BadNumber {K : PySem.W.Frag} (hb : (bsK K).all id = true) : PySem.W.keepIn K (.ref (A_c_BadNumber K)) = true := dok (nthB hb 81)
theorem q_e_n_BadNumber {K : PySem.W.Frag} (hb : (bsK K).all id = true) : PySem.W.findIn K (.ref (A_c_BadNumber K)) "value" = some none := dok (nthB hb 82)
theorem q_e_ga_BadNumber {K : PySem.W.Frag} (hb : (bsK K).all id = true) : PySem.W.findIn K (.ref (A_c_BadNumber K)) "__getattribute__" = some (some (.builtin "BaseException.__getattribute__")) := dok (nthB hb 83)
theorem q_e_gg_BadNumber {K : PySem.W.Frag} (hb : (bsK K).all id = true) : PySem.W.findIn K (.ref (A_c_BadNumber K)) "__getattr__" = some none := dok (nthB hb 84)
theorem q_e_hd_BadNumber {K : PySem.W.Frag} (hb : (bsK K).all id = true) : PySem.W.hasDictIn K (A_c_BadNumber K) = true := dok (nthB hb 85)
theorem q_e_ic_BadNumber {K : PySem.W.Frag} (hb : (bsK K).all id = true) : PySem.W.isClsIn K (A_c_BadNumber K) = true := dok (nthB hb 86)
theorem q_e_s_BadNumber {K : PySem.W.Frag} (hb : (bsK K).all id = true) : PySem.W.mroIn K (A_c_BadNumber K) (.ref (A_c_BadNumber K)) = some true := dok (nthB hb 87)
theorem q_e_ca_BadNumber {K : PySem.W.Frag} (hb : (bsK K).all id = true) : PySem.W.findIn K (.ref (A_c_BadNumber K)) "__class__" = some (some (.builtin "object.__class__")) := dok (nthB hb 88)
theorem q_e_hm_BadNumber {K : PySem.W.Frag} (hb : (bsK K).all id = true) : PySem.W.mroIn K (A_c_BadNumber K) (.type "object") = some true := dok (nthB hb 89)
theorem q_e_sa_BadPoint {K : PySem.W.Frag} (hb : (bsK K).all id = true) : PySem.W.findIn K (.ref (A_c_BadPoint K)) "__setattr__" = some (some (.builtin "object.__setattr__")) := dok (nthB hb 91)
theorem q_e_e_BadPoint {K : PySem.W.Frag} (hb : (bsK K).all id = true) : PySem.W.mroIn K (A_c_BadPoint K) (.type "BaseException") = some true := dok (nthB hb 92)
theorem q_e_t_BadPoint {K : PySem.W.Frag} (hb : (bsK K).all id = true) : PySem.W.typeIn K (.ref (A_c_BadPoint K)) = some (.type "type") := dok (nthB hb 93)
theorem q_e_k_BadPoint {K : PySem.W.Frag} (hb : (bsK K).all id = true) : PySem.W.keepIn K (.ref (A_c_BadPoint K)) = true := dok (nthB hb 94)
theorem q_e_n_BadPoint {K : PySem.W.Frag} (hb : (bsK K).all id = true) : PySem.W.findIn K (.ref (A_c_BadPoint K)) "point" = some none := dok (nthB hb 95)
theorem q_e_ga_BadPoint {K : PySem.W.Frag} (hb : (bsK K).all id = true) : PySem.W.findIn K (.ref (A_c_BadPoint K)) "__getattribute__" = some (some (.builtin "BaseException.__getattribute__")) := dok (nthB hb 96)
theorem q_e_gg_BadPoint {K : PySem.W.Frag} (hb : (bsK K).all id = true) : PySem.W.findIn K (.ref (A_c_BadPoint K)) "__getattr__" = some none := dok (nthB hb 97)
theorem q_e_hd_BadPoint {K : PySem.W.Frag} (hb : (bsK K).all id = true) : PySem.W.hasDictIn K (A_c_BadPoint K) = true := dok (nthB hb 98)
theorem q_e_ic_BadPoint {K : PySem.W.Frag} (hb : (bsK K).all id = true) : PySem.W.isClsIn K (A_c_BadPoint K) = true := dok (nthB hb 99)
theorem q_e_s_BadPoint {K : PySem.W.Frag} (hb : (bsK K).all id = true) : PySem.W.mroIn K (A_c_BadPoint K) (.ref (A_c_BadPoint K)) = some true := dok (nthB hb 100)
theorem q_e_ca_BadPoint {K : PySem.W.Frag} (hb : (bsK K).all id = true) : PySem.W.findIn K (.ref (A_c_BadPoint K)) "__class__" = some (some (.builtin "object.__class__")) := dok (nthB hb 101)
theorem q_e_hm_BadPoint {K : PySem.W.Frag} (hb : (bsK K).all id = true) : PySem.W.mroIn K (A_c_BadPoint K) (.type "object") = some true := dok (nthB hb 102)
theorem q_e_sa_BadCorner {K : PySem.W.Frag} (hb : (bsK K).all id = true) : PySem.W.findIn K (.ref (A_c_BadCorner K)) "__setattr__" = some (some (.builtin "object.__setattr__")) := dok (nthB hb 104)
theorem q_e_e_BadCorner {K : PySem.W.Frag} (hb : (bsK K).all id = true) : PySem.W.mroIn K (A_c_BadCorner K) (.type "BaseException") = some true := dok (nthB hb 105)
theorem q_e_t_BadCorner {K : PySem.W.Frag} (hb : (bsK K).all id = true) : PySem.W.typeIn K (.ref (A_c_BadCorner K)) = some (.type "type") := dok (nthB hb 106)
theorem q_e_k_BadCorner {K : PySem.W.Frag} (hb : (bsK K).all id = true) : PySem.W.keepIn K (.ref (A_c_BadCorner K)) = true := dok (nthB hb 107)
theorem q_e_n_BadCorner {K : PySem.W.Frag} (hb : (bsK K).all id = true) : PySem.W.findIn K (.ref (A_c_BadCorner K)) "corner" = some none := dok (nthB hb 108)
theorem q_e_ga_BadCorner {K : PySem.W.Frag} (hb : (bsK K).all id = true) : PySem.W.findIn K (.ref (A_c_BadCorner K)) "__getattribute__" = some (some (.builtin "BaseException.__getattribute__")) := dok (nthB hb 109)
theorem q_e_gg_BadCorner {K : PySem.W.Frag} (hb : (bsK K).all id = true) : PySem.W.findIn K (.ref (A_c_BadCorner K)) "__getattr__" = some none := dok (nthB hb 110)
theorem q_e_hd_BadCorner {K : PySem.W.Frag} (hb : (bsK K).all id = true) : PySem.W.hasDictIn K (A_c_BadCorner K) = true := dok (nthB hb 111)
theorem q_e_ic_BadCorner {K : PySem.W.Frag} (hb : (bsK K).all id = true) : PySem.W.isClsIn K (A_c_BadCorner K) = true := dok (nthB hb 112)
theorem q_e_s_BadCorner {K : PySem.W.Frag} (hb : (bsK K).all id = true) : PySem.W.mroIn K (A_c_BadCorner K) (.ref (A_c_BadCorner K)) = some true := dok (nthB hb 113)
theorem q_e_ca_BadCorner {K : PySem.W.Frag} (hb : (bsK K).all id = true) : PySem.W.findIn K (.ref (A_c_BadCorner K)) "__class__" = some (some (.builtin "object.__class__")) := dok (nthB hb 114)
theorem q_e_hm_BadCorner {K : PySem.W.Frag} (hb : (bsK K).all id = true) : PySem.W.mroIn K (A_c_BadCorner K) (.type "object") = some true := dok (nthB hb 115)
theorem q_e_sa_Barred {K : PySem.W.Frag} (hb : (bsK K).all id = true) : PySem.W.findIn K (.ref (A_c_Barred K)) "__setattr__" = some (some (.builtin "object.__setattr__")) := dok (nthB hb 117)
theorem q_e_e_Barred {K : PySem.W.Frag} (hb : (bsK K).all id = true) : PySem.W.mroIn K (A_c_Barred K) (.type "BaseException") = some true := dok (nthB hb 118)
theorem q_e_t_Barred {K : PySem.W.Frag} (hb : (bsK K).all id = true) : PySem.W.typeIn K (.ref (A_c_Barred K)) = some (.type "type") := dok (nthB hb 119)
theorem q_e_k_Barred {K : PySem.W.Frag} (hb : (bsK K).all id = true) : PySem.W.keepIn K (.ref (A_c_Barred K)) = true := dok (nthB hb 120)
theorem q_e_n_Barred {K : PySem.W.Frag} (hb : (bsK K).all id = true) : PySem.W.findIn K (.ref (A_c_Barred K)) "direction" = some none := dok (nthB hb 121)
theorem q_e_ga_Barred {K : PySem.W.Frag} (hb : (bsK K).all id = true) : PySem.W.findIn K (.ref (A_c_Barred K)) "__getattribute__" = some (some (.builtin "BaseException.__getattribute__")) := dok (nthB hb 122)
theorem q_e_gg_Barred {K : PySem.W.Frag} (hb : (bsK K).all id = true) : PySem.W.findIn K (.ref (A_c_Barred K)) "__getattr__" = some none := dok (nthB hb 123)
theorem q_e_hd_Barred {K : PySem.W.Frag} (hb : (bsK K).all id = true) : PySem.W.hasDictIn K (A_c_Barred K) = true := dok (nthB hb 124)
theorem q_e_ic_Barred {K : PySem.W.Frag} (hb : (bsK K).all id = true) : PySem.W.isClsIn K (A_c_Barred K) = true := dok (nthB hb 125)
theorem q_e_s_Barred {K : PySem.W.Frag} (hb : (bsK K).all id = true) : PySem.W.mroIn K (A_c_Barred K) (.ref (A_c_Barred K)) = some true := dok (nthB hb 126)
theorem q_e_ca_Barred {K : PySem.W.Frag} (hb : (bsK K).all id = true) : PySem.W.findIn K (.ref (A_c_Barred K)) "__class__" = some (some (.builtin "object.__class__")) := dok (nthB hb 127)
theorem q_e_hm_Barred {K : PySem.W.Frag} (hb : (bsK K).all id = true) : PySem.W.mroIn K (A_c_Barred K) (.type "object") = some true := dok (nthB hb 128)
theorem q_e_sa_BadSize {K : PySem.W.Frag} (hb : (bsK K).all id = true) : PySem.W.findIn K (.ref (A_c_BadSize K)) "__setattr__" = some (some (.builtin "object.__setattr__")) := dok (nthB hb 130)
theorem q_e_e_BadSize {K : PySem.W.Frag} (hb : (bsK K).all id = true) : PySem.W.mroIn K (A_c_BadSize K) (.type "BaseException") = some true := dok (nthB hb 131)
theorem q_e_t_BadSize {K : PySem.W.Frag} (hb : (bsK K).all id = true) : PySem.W.typeIn K (.ref (A_c_BadSize K)) = some (.type "type") := dok (nthB hb 132)
theorem q_e_k_BadSize {K : PySem.W.Frag} (hb : (bsK K).all id = true) : PySem.W.keepIn K (.ref (A_c_BadSize K)) = true := dok (nthB hb 133)
theorem q_e_n_BadSize {K : PySem.W.Frag} (hb : (bsK K).all id = true) : PySem.W.findIn K (.ref (A_c_BadSize K)) "size" = some none := dok (nthB hb 134)
theorem q_e_ga_BadSize {K : PySem.W.Frag} (hb : (bsK K).all id = true) : PySem.W.findIn K (.ref (A_c_BadSize K)) "__getattribute__" = some (some (.builtin "BaseException.__getattribute__")) := dok (nthB hb 135)
theorem q_e_gg_BadSize {K : PySem.W.Frag} (hb : (bsK K).all id = true) : PySem.W.findIn K (.ref (A_c_BadSize K)) "__getattr__" = some none := dok (nthB hb 136)
theorem q_e_hd_BadSize {K : PySem.W.Frag} (hb : (bsK K).all id = true) : PySem.W.hasDictIn K (A_c_BadSize K) = true := dok (nthB hb 137)
theorem q_e_ic_BadSize {K : PySem.W.Frag} (hb : (bsK K).all id = true) : PySem.W.isClsIn K (A_c_BadSize K) = true := dok (nthB hb 138)
theorem q_e_s_BadSize {K : PySem.W.Frag} (hb : (bsK K).all id = true) : PySem.W.mroIn K (A_c_BadSize K) (.ref (A_c_BadSize K)) = some true := dok (nthB hb 139)
theorem q_e_ca_BadSize {K : PySem.W.Frag} (hb : (bsK K).all id = true) : PySem.W.findIn K (.ref (A_c_BadSize K)) "__class__" = some (some (.builtin "object.__class__")) := dok (nthB hb 140)
theorem q_e_hm_BadSize {K : PySem.W.Frag} (hb : (bsK K).all id = true) : PySem.W.mroIn K (A_c_BadSize K) (.type "object") = some true := dok (nthB hb 141)
theorem q_e_sa_BadBounds {K : PySem.W.Frag} (hb : (bsK K).all id = true) : PySem.W.findIn K (.ref (A_c_BadBounds K)) "__setattr__" = some (some (.builtin "object.__setattr__")) := dok (nthB hb 143)
theorem q_e_e_BadBounds {K : PySem.W.Frag} (hb : (bsK K).all id = true) : PySem.W.mroIn K (A_c_BadBounds K) (.type "BaseException") = some true := dok (nthB hb 144)
theorem q_e_t_BadBounds {K : PySem.W.Frag} (hb : (bsK K).all id = true) : PySem.W.typeIn K (.ref (A_c_BadBounds K)) = some (.type "type") := dok (nthB hb 145)
theorem q_e_k_BadBounds {K : PySem.W.Frag} (hb : (bsK K).all id = true) : PySem.W.keepIn K (.ref (A_c_BadBounds K)) = true := dok (nthB hb 146)
theorem q_e_n_BadBounds {K : PySem.W.Frag} (hb : (bsK K).all id = true) : PySem.W.findIn K (.ref (A_c_BadBounds K)) "index" = some none := dok (nthB hb 147)
theorem q_e_ga_BadBounds {K : PySem.W.Frag} (hb : (bsK K).all id = true) : PySem.W.findIn K (.ref (A_c_BadBounds K)) "__getattribute__" = some (some (.builtin "BaseException.__getattribute__")) := dok (nthB hb 148)
theorem q_e_gg_BadBounds {K : PySem.W.Frag} (hb : (bsK K).all id = true) : PySem.W.findIn K (.ref (A_c_BadBounds K)) "__getattr__" = some none := dok (nthB hb 149)
theorem q_e_hd_BadBounds {K : PySem.W.Frag} (hb : (bsK K).all id = true) : PySem.W.hasDictIn K (A_c_BadBounds K) = true := dok (nthB hb 150)
theorem q_e_ic_BadBounds {K : PySem.W.Frag} (hb : (bsK K).all id = true) : PySem.W.isClsIn K (A_c_BadBounds K) = true := dok (nthB hb 151)
theorem q_e_s_BadBounds {K : PySem.W.Frag} (hb : (bsK K).all id = true) : PySem.W.mroIn K (A_c_BadBounds K) (.ref (A_c_BadBounds K)) = some true := dok (nthB hb 152)
theorem q_e_ca_BadBounds {K : PySem.W.Frag} (hb : (bsK K).all id = true) : PySem.W.findIn K (.ref (A_c_BadBounds K)) "__class__" = some (some (.builtin "object.__class__")) := dok (nthB hb 153)
theorem q_e_hm_BadBounds {K : PySem.W.Frag} (hb : (bsK K).all id = true) : PySem.W.mroIn K (A_c_BadBounds K) (.type "object") = some true := dok (nthB hb 154)
theorem q_e_sa_BadFloor {K : PySem.W.Frag} (hb : (bsK K).all id = true) : PySem.W.findIn K (.ref (A_c_BadFloor K)) "__setattr__" = some (some (.builtin "object.__setattr__")) := dok (nthB hb 156)
theorem q_e_e_BadFloor {K : PySem.W.Frag} (hb : (bsK K).all id = true) : PySem.W.mroIn K (A_c_BadFloor K) (.type "BaseException") = some true := dok (nthB hb 157)
theorem q_e_t_BadFloor {K : PySem.W.Frag} (hb : (bsK K).all id = true) : PySem.W.typeIn K (.ref (A_c_BadFloor K)) = some (.type "type") := dok (nthB hb 158)
theorem q_e_k_BadFloor {K : PySem.W.Frag} (hb : (bsK K).all id = true) : PySem.W.keepIn K (.ref (A_c_BadFloor K)) = true := dok (nthB hb 159)
theorem q_e_n_BadFloor {K : PySem.W.Frag} (hb : (bsK K).all id = true) : PySem.W.findIn K (.ref (A_c_BadFloor K)) "floor" = some none := dok (nthB hb 160)
theorem q_e_ga_BadFloor {K : PySem.W.Frag} (hb : (bsK K).all id = true) : PySem.W.findIn K (.ref (A_c_BadFloor K)) "__getattribute__" = some (some (.builtin "BaseException.__getattribute__")) := dok (nthB hb 161)
theorem q_e_gg_BadFloor {K : PySem.W.Frag} (hb : (bsK K).all id = true) : PySem.W.findIn K (.ref (A_c_BadFloor K)) "__getattr__" = some none := dok (nthB hb 162)
theorem q_e_hd_BadFloor {K : PySem.W.Frag} (hb : (bsK K).all id = true) : PySem.W.hasDictIn K (A_c_BadFloor K) = true := dok (nthB hb 163)
theorem q_e_ic_BadFloor {K : PySem.W.Frag} (hb : (bsK K).all id = true) : PySem.W.isClsIn K (A_c_BadFloor K) = true := dok (nthB hb 164)
theorem q_e_s_BadFloor {K : PySem.W.Frag} (hb : (bsK K).all id = true) : PySem.W.mroIn K (A_c_BadFloor K) (.ref (A_c_BadFloor K)) = some true := dok (nthB hb 165)
theorem q_e_ca_BadFloor {K : PySem.W.Frag} (hb : (bsK K).all id = true) : PySem.W.findIn K (.ref (A_c_BadFloor K)) "__class__" = some (some (.builtin "object.__class__")) := dok (nthB hb 166)
theorem q_e_hm_BadFloor {K : PySem.W.Frag} (hb : (bsK K).all id = true) : PySem.W.mroIn K (A_c_BadFloor K) (.type "object") = some true := dok (nthB hb 167)
theorem q_e_o_BadSize_BadFloor {K : PySem.W.Frag} (hb : (bsK K).all id = true) : PySem.W.mroIn K (A_c_BadSize K) (.ref (A_c_BadFloor K)) = some false := dok (nthB hb 168)
theorem q_e_o_BadFloor_BadSize {K : PySem.W.Frag} (hb : (bsK K).all id = true) : PySem.W.mroIn K (A_c_BadFloor K) (.ref (A_c_BadSize K)) = some false := dok (nthB hb 169)
theorem q_b_ic {K : PySem.W.Frag} (hb : (bsK K).all id = true) : PySem.W.isClsIn K (A_c_FloorError K) = true := dok (nthB hb 170)
theorem q_b_tc {K : PySem.W.Frag} (hb : (bsK K).all id = true) : PySem.W.typeIn K (.ref (A_c_FloorError K)) = some (.type "type") := dok (nthB hb 171)
theorem q_e_b_BadSize {K : PySem.W.Frag} (hb : (bsK K).all id = true) : PySem.W.mroIn K (A_c_BadSize K) (.ref (A_c_FloorError K)) = some true := dok (nthB hb 172)
theorem q_e_v_BadSize {K : PySem.W.Frag} (hb : (bsK K).all id = true) : PySem.W.mroIn K (A_c_BadSize K) (.type "ValueError") = some true := dok (nthB hb 173)
theorem q_e_b_BadFloor {K : PySem.W.Frag} (hb : (bsK K).all id = true) : PySem.W.mroIn K (A_c_BadFloor K) (.ref (A_c_FloorError K)) = some true := dok (nthB hb 174)
theorem q_a_is_integral {K : PySem.W.Frag} (hb : (bsK K).all id = true) : PySem.W.nsIn K mainGlobals "is_integral" = some (some (.ref (A_f_is_integral K))) := isR_ok (nthB hb 175)
theorem q_d_is_integral {K : PySem.W.Frag} (hb : (bsK K).all id = true) : PySem.W.codeIn K (fdK K (A_f_is_integral K)).code "is_integral" = true := dok (nthB hb 176)
theorem q_k_is_integral {K : PySem.W.Frag} (hb : (bsK K).all id = true) : PySem.W.keepIn K (.ref (A_f_is_integral K)) = true := dok (nthB hb 177)
theorem q_a_BadPoint_init {K : PySem.W.Frag} (hb : (bsK K).all id = true) : PySem.W.findIn K (.ref (A_c_BadPoint K)) "__init__" = some (some (.ref (A_f_BadPoint_init K))) := isR_ok (nthB hb 178)
theorem q_t_BadPoint_init {K : PySem.W.Frag} (hb : (bsK K).all id = true) : PySem.W.typeIn K (.ref (A_f_BadPoint_init K)) = some (.type "function") := dok (nthB hb 179)
theorem q_d_BadPoint_init {K : PySem.W.Frag} (hb : (bsK K).all id = true) : PySem.W.codeIn K (fdK K (A_f_BadPoint_init K)).code "BadPoint.__init__" = true := dok (nthB hb 180)
theorem q_k_BadPoint_init {K : PySem.W.Frag} (hb : (bsK K).all id = true) : PySem.W.keepIn K (.ref (A_f_BadPoint_init K)) = true := dok (nthB hb 181)
theorem q_a_BadCorner_init {K : PySem.W.Frag} (hb : (bsK K).all id = true) : PySem.W.findIn K (.ref (A_c_BadCorner K)) "__init__" = some (some (.ref (A_f_BadCorner_init K))) := isR_ok (nthB hb 182)
theorem q_t_BadCorner_init {K : PySem.W.Frag} (hb : (bsK K).all id = true) : PySem.W.typeIn K (.ref (A_f_BadCorner_init K)) = some (.type "function") := dok (nthB hb 183)
theorem q_d_BadCorner_init {K : PySem.W.Frag} (hb : (bsK K).all id = true) : PySem.W.codeIn K (fdK K (A_f_BadCorner_init K)).code "BadCorner.__init__" = true := dok (nthB hb 184)
theorem q_k_BadCorner_init {K : PySem.W.Frag} (hb : (bsK K).all id = true) : PySem.W.keepIn K (.ref (A_f_BadCorner_init K)) = true := dok (nthB hb 185)
theorem q_a_Barred_init {K : PySem.W.Frag} (hb : (bsK K).all id = true) : PySem.W.findIn K (.ref (A_c_Barred K)) "__init__" = some (some (.ref (A_f_Barred_init K))) := isR_ok (nthB hb 186)
theorem q_t_Barred_init {K : PySem.W.Frag} (hb : (bsK K).all id = true) : PySem.W.typeIn K (.ref (A_f_Barred_init K)) = some (.type "function") := dok (nthB hb 187)
theorem q_d_Barred_init {K : PySem.W.Frag} (hb : (bsK K).all id = true) : PySem.W.codeIn K (fdK K (A_f_Barred_init K)).code "Barred.__init__" = true := dok (nthB hb 188)
theorem q_k_Barred_init {K : PySem.W.Frag} (hb : (bsK K).all id = true) : PySem.W.keepIn K (.ref (A_f_Barred_init K)) = true := dok (nthB hb 189)
theorem q_a_BadSize_init {K : PySem.W.Frag} (hb : (bsK K).all id = true) : PySem.W.findIn K (.ref (A_c_BadSize K)) "__init__" = some (some (.ref (A_f_BadSize_init K))) := isR_ok (nthB hb 190)
theorem q_t_BadSize_init {K : PySem.W.Frag} (hb : (bsK K).all id = true) : PySem.W.typeIn K (.ref (A_f_BadSize_init K)) = some (.type "function") := dok (nthB hb 191)
theorem q_d_BadSize_init {K : PySem.W.Frag} (hb : (bsK K).all id = true) : PySem.W.codeIn K (fdK K (A_f_BadSize_init K)).code "BadSize.__init__" = true := dok (nthB hb 192)
theorem q_k_BadSize_init {K : PySem.W.Frag} (hb : (bsK K).all id = true) : PySem.W.keepIn K (.ref (A_f_BadSize_init K)) = true := dok (nthB hb 193)
theorem q_a_BadBounds_init {K : PySem.W.Frag} (hb : (bsK K).all id = true) : PySem.W.findIn K (.ref (A_c_BadBounds K)) "__init__" = some (some (.ref (A_f_BadBounds_init K))) := isR_ok (nthB hb 194)
theorem q_t_BadBounds_init {K : PySem.W.Frag} (hb : (bsK K).all id = true) : PySem.W.typeIn K (.ref (A_f_BadBounds_init K)) = some (.type "function") := dok (nthB hb 195)
theorem q_d_BadBounds_init {K : PySem.W.Frag} (hb : (bsK K).all id = true) : PySem.W.codeIn K (fdK K (A_f_BadBounds_init K)).code "BadBounds.__init__" = true := dok (nthB hb 196)
theorem q_k_BadBounds_init {K : PySem.W.Frag} (hb : (bsK K).all id = true) : PySem.W.keepIn K (.ref (A_f_BadBounds_init K)) = true := dok (nthB hb 197)
theorem q_a_BadFloor_init {K : PySem.W.Frag} (hb : (bsK K).all id = true) : PySem.W.findIn K (.ref (A_c_BadFloor K)) "__init__" = some (some (.ref (A_f_BadFloor_init K))) := isR_ok (nthB hb 198)
theorem q_t_BadFloor_init {K : PySem.W.Frag} (hb : (bsK K).all id = true) : PySem.W.typeIn K (.ref (A_f_BadFloor_init K)) = some (.type "function") := dok (nthB hb 199)
theorem q_d_BadFloor_init {K : PySem.W.Frag} (hb : (bsK K).all id = true) : PySem.W.codeIn K (fdK K (A_f_BadFloor_init K)).code "BadFloor.__init__" = true := dok (nthB hb 200)
theorem q_k_BadFloor_init {K : PySem.W.Frag} (hb : (bsK K).all id = true) : PySem.W.keepIn K (.ref (A_f_BadFloor_init K)) = true := dok (nthB hb 201)
theorem q_a_BadNumber_init {K : PySem.W.Frag} (hb : (bsK K).all id = true) : PySem.W.findIn K (.ref (A_c_BadNumber K)) "__init__" = some (some (.ref (A_f_BadNumber_init K))) := isR_ok (nthB hb 202)
theorem q_t_BadNumber_init {K : PySem.W.Frag} (hb : (bsK K).all id = true) : PySem.W.typeIn K (.ref (A_f_BadNumber_init K)) = some (.type "function") := dok (nthB hb 203)
theorem q_d_BadNumber_init {K : PySem.W.Frag} (hb : (bsK K).all id = true) : PySem.W.codeIn K (fdK K (A_f_BadNumber_init K)).code "BadNumber.__init__" = true := dok (nthB hb 204)
theorem q_k_BadNumber_init {K : PySem.W.Frag} (hb : (bsK K).all id = true) : PySem.W.keepIn K (.ref (A_f_BadNumber_init K)) = true := dok (nthB hb 205)
theorem q_a_Root_init {K : PySem.W.Frag} (hb : (bsK K).all id = true) : PySem.W.findIn K (.ref (A_c_Root K)) "__init__" = some (some (.ref (A_f_Root_init K))) := isR_ok (nthB hb 206)
theorem q_i_Root_init {K : PySem.W.Frag} (hb : (bsK K).all id = true) : PySem.W.isFn K (.ref (A_f_Root_init K)) = true := dok (nthB hb 207)
theorem q_mk_Root_init {K : PySem.W.Frag} (hb : (bsK K).all id = true) : PySem.W.makesIn K (A_c_Root K) = true := dok (nthB hb 208)
theorem q_kc_Root_init {K : PySem.W.Frag} (hb : (bsK K).all id = true) : PySem.W.keepIn K (.ref (A_c_Root K)) = true := dok (nthB hb 209)
theorem q_d_Root_init {K : PySem.W.Frag} (hb : (bsK K).all id = true) : PySem.W.codeIn K (fdK K (A_f_Root_init K)).code "Root.__init__" = true := dok (nthB hb 210)
theorem q_k_Root_init {K : PySem.W.Frag} (hb : (bsK K).all id = true) : PySem.W.keepIn K (.ref (A_f_Root_init K)) = true := dok (nthB hb 211)
theorem q_a_Root_eq {K : PySem.W.Frag} (hb : (bsK K).all id = true) : PySem.W.findIn K (.ref (A_c_Root K)) "__eq__" = some (some (.ref (A_f_Root_eq K))) := isR_ok (nthB hb 212)
theorem q_i_Root_eq {K : PySem.W.Frag} (hb : (bsK K).all id = true) : PySem.W.isFn K (.ref (A_f_Root_eq K)) = true := dok (nthB hb 213)
theorem q_d_Root_eq {K : PySem.W.Frag} (hb : (bsK K).all id = true) : PySem.W.codeIn K (fdK K (A_f_Root_eq K)).code "Root.__eq__" = true := dok (nthB hb 214)
theorem q_k_Root_eq {K : PySem.W.Frag} (hb : (bsK K).all id = true) : PySem.W.keepIn K (.ref (A_f_Root_eq K)) = true := dok (nthB hb 215)
theorem q_a_Root_neg {K : PySem.W.Frag} (hb : (bsK K).all id = true) : PySem.W.findIn K (.ref (A_c_Root K)) "__neg__" = some (some (.ref (A_f_Root_neg K))) := isR_ok (nthB hb 216)
theorem q_i_Root_neg {K : PySem.W.Frag} (hb : (bsK K).all id = true) : PySem.W.isFn K (.ref (A_f_Root_neg K)) = true := dok (nthB hb 217)
theorem q_d_Root_neg {K : PySem.W.Frag} (hb : (bsK K).all id = true) : PySem.W.codeIn K (fdK K (A_f_Root_neg K)).code "Root.__neg__" = true := dok (nthB hb 218)
theorem q_k_Root_neg {K : PySem.W.Frag} (hb : (bsK K).all id = true) : PySem.W.keepIn K (.ref (A_f_Root_neg K)) = true := dok (nthB hb 219)
theorem q_a_is_number {K : PySem.W.Frag} (hb : (bsK K).all id = true) : PySem.W.nsIn K mainGlobals "is_number" = some (some (.ref (A_f_is_number K))) := isR_ok (nthB hb 220)
theorem q_d_is_number {K : PySem.W.Frag} (hb : (bsK K).all id = true) : PySem.W.codeIn K (fdK K (A_f_is_number K)).code "is_number" = true := dok (nthB hb 221)
theorem q_k_is_number {K : PySem.W.Frag} (hb : (bsK K).all id = true) : PySem.W.keepIn K (.ref (A_f_is_number K)) = true := dok (nthB hb 222)
theorem q_a_as_root {K : PySem.W.Frag} (hb : (bsK K).all id = true) : PySem.W.nsIn K mainGlobals "as_root" = some (some (.ref (A_f_as_root K))) := isR_ok (nthB hb 223)
theorem q_d_as_root {K : PySem.W.Frag} (hb : (bsK K).all id = true) : PySem.W.codeIn K (fdK K (A_f_as_root K)).code "as_root" = true := dok (nthB hb 224)
theorem q_k_as_root {K : PySem.W.Frag} (hb : (bsK K).all id = true) : PySem.W.keepIn K (.ref (A_f_as_root K)) = true := dok (nthB hb 225)
theorem q_a_surd_sign {K : PySem.W.Frag} (hb : (bsK K).all id = true) : PySem.W.nsIn K mainGlobals "surd_sign" = some (some (.ref (A_f_surd_sign K))) := isR_ok (nthB hb 226)
theorem q_d_surd_sign {K : PySem.W.Frag} (hb : (bsK K).all id = true) : PySem.W.codeIn K (fdK K (A_f_surd_sign K)).code "surd_sign" = true := dok (nthB hb 227)
theorem q_k_surd_sign {K : PySem.W.Frag} (hb : (bsK K).all id = true) : PySem.W.keepIn K (.ref (A_f_surd_sign K)) = true := dok (nthB hb 228)
theorem q_a_Root_add {K : PySem.W.Frag} (hb : (bsK K).all id = true) : PySem.W.findIn K (.ref (A_c_Root K)) "__add__" = some (some (.ref (A_f_Root_add K))) := isR_ok (nthB hb 229)
theorem q_i_Root_add {K : PySem.W.Frag} (hb : (bsK K).all id = true) : PySem.W.isFn K (.ref (A_f_Root_add K)) = true := dok (nthB hb 230)
theorem q_d_Root_add {K : PySem.W.Frag} (hb : (bsK K).all id = true) : PySem.W.codeIn K (fdK K (A_f_Root_add K)).code "Root.__add__" = true := dok (nthB hb 231)
theorem q_k_Root_add {K : PySem.W.Frag} (hb : (bsK K).all id = true) : PySem.W.keepIn K (.ref (A_f_Root_add K)) = true := dok (nthB hb 232)
theorem q_a_Root_sub {K : PySem.W.Frag} (hb : (bsK K).all id = true) : PySem.W.findIn K (.ref (A_c_Root K)) "__sub__" = some (some (.ref (A_f_Root_sub K))) := isR_ok (nthB hb 233)
theorem q_i_Root_sub {K : PySem.W.Frag} (hb : (bsK K).all id = true) : PySem.W.isFn K (.ref (A_f_Root_sub K)) = true := dok (nthB hb 234)
theorem q_d_Root_sub {K : PySem.W.Frag} (hb : (bsK K).all id = true) : PySem.W.codeIn K (fdK K (A_f_Root_sub K)).code "Root.__sub__" = true := dok (nthB hb 235)
theorem q_k_Root_sub {K : PySem.W.Frag} (hb : (bsK K).all id = true) : PySem.W.keepIn K (.ref (A_f_Root_sub K)) = true := dok (nthB hb 236)
theorem q_a_Root_mul {K : PySem.W.Frag} (hb : (bsK K).all id = true) : PySem.W.findIn K (.ref (A_c_Root K)) "__mul__" = some (some (.ref (A_f_Root_mul K))) := isR_ok (nthB hb 237)
theorem q_i_Root_mul {K : PySem.W.Frag} (hb : (bsK K).all id = true) : PySem.W.isFn K (.ref (A_f_Root_mul K)) = true := dok (nthB hb 238)
theorem q_d_Root_mul {K : PySem.W.Frag} (hb : (bsK K).all id = true) : PySem.W.codeIn K (fdK K (A_f_Root_mul K)).code "Root.__mul__" = true := dok (nthB hb 239)
theorem q_k_Root_mul {K : PySem.W.Frag} (hb : (bsK K).all id = true) : PySem.W.keepIn K (.ref (A_f_Root_mul K)) = true := dok (nthB hb 240)
theorem q_a_Root_radd {K : PySem.W.Frag} (hb : (bsK K).all id = true) : PySem.W.findIn K (.ref (A_c_Root K)) "__radd__" = some (some (.ref (A_f_Root_radd K))) := isR_ok (nthB hb 241)
theorem q_i_Root_radd {K : PySem.W.Frag} (hb : (bsK K).all id = true) : PySem.W.isFn K (.ref (A_f_Root_radd K)) = true := dok (nthB hb 242)
theorem q_d_Root_radd {K : PySem.W.Frag} (hb : (bsK K).all id = true) : PySem.W.codeIn K (fdK K (A_f_Root_radd K)).code "Root.__radd__" = true := dok (nthB hb 243)
theorem q_k_Root_radd {K : PySem.W.Frag} (hb : (bsK K).all id = true) : PySem.W.keepIn K (.ref (A_f_Root_radd K)) = true := dok (nthB hb 244)
theorem q_a_Root_rmul {K : PySem.W.Frag} (hb : (bsK K).all id = true) : PySem.W.findIn K (.ref (A_c_Root K)) "__rmul__" = some (some (.ref (A_f_Root_rmul K))) := isR_ok (nthB hb 245)
theorem q_i_Root_rmul {K : PySem.W.Frag} (hb : (bsK K).all id = true) : PySem.W.isFn K (.ref (A_f_Root_rmul K)) = true := dok (nthB hb 246)
theorem q_d_Root_rmul {K : PySem.W.Frag} (hb : (bsK K).all id = true) : PySem.W.codeIn K (fdK K (A_f_Root_rmul K)).code "Root.__rmul__" = true := dok (nthB hb 247)
theorem q_k_Root_rmul {K : PySem.W.Frag} (hb : (bsK K).all id = true) : PySem.W.keepIn K (.ref (A_f_Root_rmul K)) = true := dok (nthB hb 248)
theorem q_a_Root_rsub {K : PySem.W.Frag} (hb : (bsK K).all id = true) : PySem.W.findIn K (.ref (A_c_Root K)) "__rsub__" = some (some (.ref (A_f_Root_rsub K))) := isR_ok (nthB hb 249)
theorem q_i_Root_rsub {K : PySem.W.Frag} (hb : (bsK K).all id = true) : PySem.W.isFn K (.ref (A_f_Root_rsub K)) = true := dok (nthB hb 250)
theorem q_d_Root_rsub {K : PySem.W.Frag} (hb : (bsK K).all id = true) : PySem.W.codeIn K (fdK K (A_f_Root_rsub K)).code "Root.__rsub__" = true := dok (nthB hb 251)
theorem q_k_Root_rsub {K : PySem.W.Frag} (hb : (bsK K).all id = true) : PySem.W.keepIn K (.ref (A_f_Root_rsub K)) = true := dok (nthB hb 252)
theorem q_a_Root_over {K : PySem.W.Frag} (hb : (bsK K).all id = true) : PySem.W.findIn K (.ref (A_c_Root K)) "over" = some (some (.ref (A_f_Root_over K))) := isR_ok (nthB hb 253)
theorem q_i_Root_over {K : PySem.W.Frag} (hb : (bsK K).all id = true) : PySem.W.isFn K (.ref (A_f_Root_over K)) = true := dok (nthB hb 254)
theorem q_d_Root_over {K : PySem.W.Frag} (hb : (bsK K).all id = true) : PySem.W.codeIn K (fdK K (A_f_Root_over K)).code "Root.over" = true := dok (nthB hb 255)
theorem q_k_Root_over {K : PySem.W.Frag} (hb : (bsK K).all id = true) : PySem.W.keepIn K (.ref (A_f_Root_over K)) = true := dok (nthB hb 256)
theorem q_a_Root_less {K : PySem.W.Frag} (hb : (bsK K).all id = true) : PySem.W.findIn K (.ref (A_c_Root K)) "less" = some (some (.ref (A_f_Root_less K))) := isR_ok (nthB hb 257)
theorem q_i_Root_less {K : PySem.W.Frag} (hb : (bsK K).all id = true) : PySem.W.isFn K (.ref (A_f_Root_less K)) = true := dok (nthB hb 258)
theorem q_d_Root_less {K : PySem.W.Frag} (hb : (bsK K).all id = true) : PySem.W.codeIn K (fdK K (A_f_Root_less K)).code "Root.less" = true := dok (nthB hb 259)
theorem q_k_Root_less {K : PySem.W.Frag} (hb : (bsK K).all id = true) : PySem.W.keepIn K (.ref (A_f_Root_less K)) = true := dok (nthB hb 260)
theorem q_a_Root_sign {K : PySem.W.Frag} (hb : (bsK K).all id = true) : PySem.W.findIn K (.ref (A_c_Root K)) "sign" = some (some (.ref (A_f_Root_sign K))) := isR_ok (nthB hb 261)
theorem q_i_Root_sign {K : PySem.W.Frag} (hb : (bsK K).all id = true) : PySem.W.isFn K (.ref (A_f_Root_sign K)) = true := dok (nthB hb 262)
theorem q_d_Root_sign {K : PySem.W.Frag} (hb : (bsK K).all id = true) : PySem.W.codeIn K (fdK K (A_f_Root_sign K)).code "Root.sign" = true := dok (nthB hb 263)
theorem q_k_Root_sign {K : PySem.W.Frag} (hb : (bsK K).all id = true) : PySem.W.keepIn K (.ref (A_f_Root_sign K)) = true := dok (nthB hb 264)
theorem q_a_is_corner {K : PySem.W.Frag} (hb : (bsK K).all id = true) : PySem.W.nsIn K mainGlobals "is_corner" = some (some (.ref (A_f_is_corner K))) := isR_ok (nthB hb 265)
theorem q_d_is_corner {K : PySem.W.Frag} (hb : (bsK K).all id = true) : PySem.W.codeIn K (fdK K (A_f_is_corner K)).code "is_corner" = true := dok (nthB hb 266)
theorem q_k_is_corner {K : PySem.W.Frag} (hb : (bsK K).all id = true) : PySem.W.keepIn K (.ref (A_f_is_corner K)) = true := dok (nthB hb 267)
theorem q_a_check_corner {K : PySem.W.Frag} (hb : (bsK K).all id = true) : PySem.W.nsIn K mainGlobals "check_corner" = some (some (.ref (A_f_check_corner K))) := isR_ok (nthB hb 268)
theorem q_d_check_corner {K : PySem.W.Frag} (hb : (bsK K).all id = true) : PySem.W.codeIn K (fdK K (A_f_check_corner K)).code "check_corner" = true := dok (nthB hb 269)
theorem q_k_check_corner {K : PySem.W.Frag} (hb : (bsK K).all id = true) : PySem.W.keepIn K (.ref (A_f_check_corner K)) = true := dok (nthB hb 270)
theorem q_a_step {K : PySem.W.Frag} (hb : (bsK K).all id = true) : PySem.W.nsIn K mainGlobals "step" = some (some (.ref (A_f_step K))) := isR_ok (nthB hb 271)
theorem q_d_step {K : PySem.W.Frag} (hb : (bsK K).all id = true) : PySem.W.codeIn K (fdK K (A_f_step K)).code "step" = true := dok (nthB hb 272)
theorem q_k_step {K : PySem.W.Frag} (hb : (bsK K).all id = true) : PySem.W.keepIn K (.ref (A_f_step K)) = true := dok (nthB hb 273)
theorem q_a_is_point {K : PySem.W.Frag} (hb : (bsK K).all id = true) : PySem.W.nsIn K mainGlobals "is_point" = some (some (.ref (A_f_is_point K))) := isR_ok (nthB hb 274)
theorem q_d_is_point {K : PySem.W.Frag} (hb : (bsK K).all id = true) : PySem.W.codeIn K (fdK K (A_f_is_point K)).code "is_point" = true := dok (nthB hb 275)
theorem q_k_is_point {K : PySem.W.Frag} (hb : (bsK K).all id = true) : PySem.W.keepIn K (.ref (A_f_is_point K)) = true := dok (nthB hb 276)
theorem q_a_as_roots {K : PySem.W.Frag} (hb : (bsK K).all id = true) : PySem.W.nsIn K mainGlobals "as_roots" = some (some (.ref (A_f_as_roots K))) := isR_ok (nthB hb 277)
theorem q_d_as_roots {K : PySem.W.Frag} (hb : (bsK K).all id = true) : PySem.W.codeIn K (fdK K (A_f_as_roots K)).code "as_roots" = true := dok (nthB hb 278)
theorem q_k_as_roots {K : PySem.W.Frag} (hb : (bsK K).all id = true) : PySem.W.keepIn K (.ref (A_f_as_roots K)) = true := dok (nthB hb 279)
theorem q_a_check_point {K : PySem.W.Frag} (hb : (bsK K).all id = true) : PySem.W.nsIn K mainGlobals "check_point" = some (some (.ref (A_f_check_point K))) := isR_ok (nthB hb 280)
theorem q_d_check_point {K : PySem.W.Frag} (hb : (bsK K).all id = true) : PySem.W.codeIn K (fdK K (A_f_check_point K)).code "check_point" = true := dok (nthB hb 281)
theorem q_k_check_point {K : PySem.W.Frag} (hb : (bsK K).all id = true) : PySem.W.keepIn K (.ref (A_f_check_point K)) = true := dok (nthB hb 282)
theorem q_a_is_half {K : PySem.W.Frag} (hb : (bsK K).all id = true) : PySem.W.nsIn K mainGlobals "is_half" = some (some (.ref (A_f_is_half K))) := isR_ok (nthB hb 283)
theorem q_d_is_half {K : PySem.W.Frag} (hb : (bsK K).all id = true) : PySem.W.codeIn K (fdK K (A_f_is_half K)).code "is_half" = true := dok (nthB hb 284)
theorem q_k_is_half {K : PySem.W.Frag} (hb : (bsK K).all id = true) : PySem.W.keepIn K (.ref (A_f_is_half K)) = true := dok (nthB hb 285)
theorem q_a_bars_evenly {K : PySem.W.Frag} (hb : (bsK K).all id = true) : PySem.W.nsIn K mainGlobals "bars_evenly" = some (some (.ref (A_f_bars_evenly K))) := isR_ok (nthB hb 286)
theorem q_d_bars_evenly {K : PySem.W.Frag} (hb : (bsK K).all id = true) : PySem.W.codeIn K (fdK K (A_f_bars_evenly K)).code "bars_evenly" = true := dok (nthB hb 287)
theorem q_k_bars_evenly {K : PySem.W.Frag} (hb : (bsK K).all id = true) : PySem.W.keepIn K (.ref (A_f_bars_evenly K)) = true := dok (nthB hb 288)
theorem q_a_bars_oddly {K : PySem.W.Frag} (hb : (bsK K).all id = true) : PySem.W.nsIn K mainGlobals "bars_oddly" = some (some (.ref (A_f_bars_oddly K))) := isR_ok (nthB hb 289)
theorem q_d_bars_oddly {K : PySem.W.Frag} (hb : (bsK K).all id = true) : PySem.W.codeIn K (fdK K (A_f_bars_oddly K)).code "bars_oddly" = true := dok (nthB hb 290)
theorem q_k_bars_oddly {K : PySem.W.Frag} (hb : (bsK K).all id = true) : PySem.W.keepIn K (.ref (A_f_bars_oddly K)) = true := dok (nthB hb 291)
theorem q_a_barred {K : PySem.W.Frag} (hb : (bsK K).all id = true) : PySem.W.nsIn K mainGlobals "barred" = some (some (.ref (A_f_barred K))) := isR_ok (nthB hb 292)
theorem q_d_barred {K : PySem.W.Frag} (hb : (bsK K).all id = true) : PySem.W.codeIn K (fdK K (A_f_barred K)).code "barred" = true := dok (nthB hb 293)
theorem q_k_barred {K : PySem.W.Frag} (hb : (bsK K).all id = true) : PySem.W.keepIn K (.ref (A_f_barred K)) = true := dok (nthB hb 294)
theorem q_a_gauge_of {K : PySem.W.Frag} (hb : (bsK K).all id = true) : PySem.W.nsIn K mainGlobals "gauge_of" = some (some (.ref (A_f_gauge_of K))) := isR_ok (nthB hb 295)
theorem q_d_gauge_of {K : PySem.W.Frag} (hb : (bsK K).all id = true) : PySem.W.codeIn K (fdK K (A_f_gauge_of K)).code "gauge_of" = true := dok (nthB hb 296)
theorem q_k_gauge_of {K : PySem.W.Frag} (hb : (bsK K).all id = true) : PySem.W.keepIn K (.ref (A_f_gauge_of K)) = true := dok (nthB hb 297)
theorem q_a_beside {K : PySem.W.Frag} (hb : (bsK K).all id = true) : PySem.W.nsIn K mainGlobals "beside" = some (some (.ref (A_f_beside K))) := isR_ok (nthB hb 298)
theorem q_d_beside {K : PySem.W.Frag} (hb : (bsK K).all id = true) : PySem.W.codeIn K (fdK K (A_f_beside K)).code "beside" = true := dok (nthB hb 299)
theorem q_k_beside {K : PySem.W.Frag} (hb : (bsK K).all id = true) : PySem.W.keepIn K (.ref (A_f_beside K)) = true := dok (nthB hb 300)
theorem q_a_in_window {K : PySem.W.Frag} (hb : (bsK K).all id = true) : PySem.W.nsIn K mainGlobals "in_window" = some (some (.ref (A_f_in_window K))) := isR_ok (nthB hb 301)
theorem q_d_in_window {K : PySem.W.Frag} (hb : (bsK K).all id = true) : PySem.W.codeIn K (fdK K (A_f_in_window K)).code "in_window" = true := dok (nthB hb 302)
theorem q_k_in_window {K : PySem.W.Frag} (hb : (bsK K).all id = true) : PySem.W.keepIn K (.ref (A_f_in_window K)) = true := dok (nthB hb 303)
theorem q_a_Floor_init {K : PySem.W.Frag} (hb : (bsK K).all id = true) : PySem.W.findIn K (.ref (A_c_Floor K)) "__init__" = some (some (.ref (A_f_Floor_init K))) := isR_ok (nthB hb 304)
theorem q_i_Floor_init {K : PySem.W.Frag} (hb : (bsK K).all id = true) : PySem.W.isFn K (.ref (A_f_Floor_init K)) = true := dok (nthB hb 305)
theorem q_mk_Floor_init {K : PySem.W.Frag} (hb : (bsK K).all id = true) : PySem.W.makesIn K (A_c_Floor K) = true := dok (nthB hb 306)
theorem q_kc_Floor_init {K : PySem.W.Frag} (hb : (bsK K).all id = true) : PySem.W.keepIn K (.ref (A_c_Floor K)) = true := dok (nthB hb 307)
theorem q_d_Floor_init {K : PySem.W.Frag} (hb : (bsK K).all id = true) : PySem.W.codeIn K (fdK K (A_f_Floor_init K)).code "Floor.__init__" = true := dok (nthB hb 308)
theorem q_k_Floor_init {K : PySem.W.Frag} (hb : (bsK K).all id = true) : PySem.W.keepIn K (.ref (A_f_Floor_init K)) = true := dok (nthB hb 309)
theorem q_a_Floor_has_corner {K : PySem.W.Frag} (hb : (bsK K).all id = true) : PySem.W.findIn K (.ref (A_c_Floor K)) "has_corner" = some (some (.ref (A_f_Floor_has_corner K))) := isR_ok (nthB hb 310)
theorem q_i_Floor_has_corner {K : PySem.W.Frag} (hb : (bsK K).all id = true) : PySem.W.isFn K (.ref (A_f_Floor_has_corner K)) = true := dok (nthB hb 311)
theorem q_d_Floor_has_corner {K : PySem.W.Frag} (hb : (bsK K).all id = true) : PySem.W.codeIn K (fdK K (A_f_Floor_has_corner K)).code "Floor.has_corner" = true := dok (nthB hb 312)
theorem q_k_Floor_has_corner {K : PySem.W.Frag} (hb : (bsK K).all id = true) : PySem.W.keepIn K (.ref (A_f_Floor_has_corner K)) = true := dok (nthB hb 313)
theorem q_a_Floor_eq {K : PySem.W.Frag} (hb : (bsK K).all id = true) : PySem.W.findIn K (.ref (A_c_Floor K)) "__eq__" = some (some (.ref (A_f_Floor_eq K))) := isR_ok (nthB hb 314)
theorem q_i_Floor_eq {K : PySem.W.Frag} (hb : (bsK K).all id = true) : PySem.W.isFn K (.ref (A_f_Floor_eq K)) = true := dok (nthB hb 315)
theorem q_d_Floor_eq {K : PySem.W.Frag} (hb : (bsK K).all id = true) : PySem.W.codeIn K (fdK K (A_f_Floor_eq K)).code "Floor.__eq__" = true := dok (nthB hb 316)
theorem q_k_Floor_eq {K : PySem.W.Frag} (hb : (bsK K).all id = true) : PySem.W.keepIn K (.ref (A_f_Floor_eq K)) = true := dok (nthB hb 317)
theorem q_a_is_bound {K : PySem.W.Frag} (hb : (bsK K).all id = true) : PySem.W.nsIn K mainGlobals "is_bound" = some (some (.ref (A_f_is_bound K))) := isR_ok (nthB hb 318)
theorem q_d_is_bound {K : PySem.W.Frag} (hb : (bsK K).all id = true) : PySem.W.codeIn K (fdK K (A_f_is_bound K)).code "is_bound" = true := dok (nthB hb 319)
theorem q_k_is_bound {K : PySem.W.Frag} (hb : (bsK K).all id = true) : PySem.W.keepIn K (.ref (A_f_is_bound K)) = true := dok (nthB hb 320)
theorem q_a_check_bounds {K : PySem.W.Frag} (hb : (bsK K).all id = true) : PySem.W.nsIn K mainGlobals "check_bounds" = some (some (.ref (A_f_check_bounds K))) := isR_ok (nthB hb 321)
theorem q_d_check_bounds {K : PySem.W.Frag} (hb : (bsK K).all id = true) : PySem.W.codeIn K (fdK K (A_f_check_bounds K)).code "check_bounds" = true := dok (nthB hb 322)
theorem q_k_check_bounds {K : PySem.W.Frag} (hb : (bsK K).all id = true) : PySem.W.keepIn K (.ref (A_f_check_bounds K)) = true := dok (nthB hb 323)
theorem q_a_toward {K : PySem.W.Frag} (hb : (bsK K).all id = true) : PySem.W.nsIn K mainGlobals "toward" = some (some (.ref (A_f_toward K))) := isR_ok (nthB hb 324)
theorem q_d_toward {K : PySem.W.Frag} (hb : (bsK K).all id = true) : PySem.W.codeIn K (fdK K (A_f_toward K)).code "toward" = true := dok (nthB hb 325)
theorem q_k_toward {K : PySem.W.Frag} (hb : (bsK K).all id = true) : PySem.W.keepIn K (.ref (A_f_toward K)) = true := dok (nthB hb 326)
theorem q_a_least_indexes {K : PySem.W.Frag} (hb : (bsK K).all id = true) : PySem.W.nsIn K mainGlobals "least_indexes" = some (some (.ref (A_f_least_indexes K))) := isR_ok (nthB hb 327)
theorem q_d_least_indexes {K : PySem.W.Frag} (hb : (bsK K).all id = true) : PySem.W.codeIn K (fdK K (A_f_least_indexes K)).code "least_indexes" = true := dok (nthB hb 328)
theorem q_k_least_indexes {K : PySem.W.Frag} (hb : (bsK K).all id = true) : PySem.W.keepIn K (.ref (A_f_least_indexes K)) = true := dok (nthB hb 329)
theorem q_a_least_numbers {K : PySem.W.Frag} (hb : (bsK K).all id = true) : PySem.W.nsIn K mainGlobals "least_numbers" = some (some (.ref (A_f_least_numbers K))) := isR_ok (nthB hb 330)
theorem q_d_least_numbers {K : PySem.W.Frag} (hb : (bsK K).all id = true) : PySem.W.codeIn K (fdK K (A_f_least_numbers K)).code "least_numbers" = true := dok (nthB hb 331)
theorem q_k_least_numbers {K : PySem.W.Frag} (hb : (bsK K).all id = true) : PySem.W.keepIn K (.ref (A_f_least_numbers K)) = true := dok (nthB hb 332)
theorem q_a_over_common {K : PySem.W.Frag} (hb : (bsK K).all id = true) : PySem.W.nsIn K mainGlobals "over_common" = some (some (.ref (A_f_over_common K))) := isR_ok (nthB hb 333)
theorem q_d_over_common {K : PySem.W.Frag} (hb : (bsK K).all id = true) : PySem.W.codeIn K (fdK K (A_f_over_common K)).code "over_common" = true := dok (nthB hb 334)
theorem q_k_over_common {K : PySem.W.Frag} (hb : (bsK K).all id = true) : PySem.W.keepIn K (.ref (A_f_over_common K)) = true := dok (nthB hb 335)
theorem q_a_pair_sum {K : PySem.W.Frag} (hb : (bsK K).all id = true) : PySem.W.nsIn K mainGlobals "pair_sum" = some (some (.ref (A_f_pair_sum K))) := isR_ok (nthB hb 336)
theorem q_d_pair_sum {K : PySem.W.Frag} (hb : (bsK K).all id = true) : PySem.W.codeIn K (fdK K (A_f_pair_sum K)).code "pair_sum" = true := dok (nthB hb 337)
theorem q_k_pair_sum {K : PySem.W.Frag} (hb : (bsK K).all id = true) : PySem.W.keepIn K (.ref (A_f_pair_sum K)) = true := dok (nthB hb 338)
theorem q_a_presses_on {K : PySem.W.Frag} (hb : (bsK K).all id = true) : PySem.W.nsIn K mainGlobals "presses_on" = some (some (.ref (A_f_presses_on K))) := isR_ok (nthB hb 339)
theorem q_d_presses_on {K : PySem.W.Frag} (hb : (bsK K).all id = true) : PySem.W.codeIn K (fdK K (A_f_presses_on K)).code "presses_on" = true := dok (nthB hb 340)
theorem q_k_presses_on {K : PySem.W.Frag} (hb : (bsK K).all id = true) : PySem.W.keepIn K (.ref (A_f_presses_on K)) = true := dok (nthB hb 341)
theorem q_a_barring_parts {K : PySem.W.Frag} (hb : (bsK K).all id = true) : PySem.W.nsIn K mainGlobals "barring_parts" = some (some (.ref (A_f_barring_parts K))) := isR_ok (nthB hb 342)
theorem q_d_barring_parts {K : PySem.W.Frag} (hb : (bsK K).all id = true) : PySem.W.codeIn K (fdK K (A_f_barring_parts K)).code "barring_parts" = true := dok (nthB hb 343)
theorem q_k_barring_parts {K : PySem.W.Frag} (hb : (bsK K).all id = true) : PySem.W.keepIn K (.ref (A_f_barring_parts K)) = true := dok (nthB hb 344)
theorem q_a_least_pair {K : PySem.W.Frag} (hb : (bsK K).all id = true) : PySem.W.nsIn K mainGlobals "least_pair" = some (some (.ref (A_f_least_pair K))) := isR_ok (nthB hb 345)
theorem q_d_least_pair {K : PySem.W.Frag} (hb : (bsK K).all id = true) : PySem.W.codeIn K (fdK K (A_f_least_pair K)).code "least_pair" = true := dok (nthB hb 346)
theorem q_k_least_pair {K : PySem.W.Frag} (hb : (bsK K).all id = true) : PySem.W.keepIn K (.ref (A_f_least_pair K)) = true := dok (nthB hb 347)
theorem q_a_tightened {K : PySem.W.Frag} (hb : (bsK K).all id = true) : PySem.W.nsIn K mainGlobals "tightened" = some (some (.ref (A_f_tightened K))) := isR_ok (nthB hb 348)
theorem q_d_tightened {K : PySem.W.Frag} (hb : (bsK K).all id = true) : PySem.W.codeIn K (fdK K (A_f_tightened K)).code "tightened" = true := dok (nthB hb 349)
theorem q_k_tightened {K : PySem.W.Frag} (hb : (bsK K).all id = true) : PySem.W.keepIn K (.ref (A_f_tightened K)) = true := dok (nthB hb 350)
theorem q_a_Piece_init {K : PySem.W.Frag} (hb : (bsK K).all id = true) : PySem.W.findIn K (.ref (A_c_Piece K)) "__init__" = some (some (.ref (A_f_Piece_init K))) := isR_ok (nthB hb 351)
theorem q_i_Piece_init {K : PySem.W.Frag} (hb : (bsK K).all id = true) : PySem.W.isFn K (.ref (A_f_Piece_init K)) = true := dok (nthB hb 352)
theorem q_mk_Piece_init {K : PySem.W.Frag} (hb : (bsK K).all id = true) : PySem.W.makesIn K (A_c_Piece K) = true := dok (nthB hb 353)
theorem q_kc_Piece_init {K : PySem.W.Frag} (hb : (bsK K).all id = true) : PySem.W.keepIn K (.ref (A_c_Piece K)) = true := dok (nthB hb 354)
theorem q_d_Piece_init {K : PySem.W.Frag} (hb : (bsK K).all id = true) : PySem.W.codeIn K (fdK K (A_f_Piece_init K)).code "Piece.__init__" = true := dok (nthB hb 355)
theorem q_k_Piece_init {K : PySem.W.Frag} (hb : (bsK K).all id = true) : PySem.W.keepIn K (.ref (A_f_Piece_init K)) = true := dok (nthB hb 356)
theorem q_a_Piece_is_empty {K : PySem.W.Frag} (hb : (bsK K).all id = true) : PySem.W.findIn K (.ref (A_c_Piece K)) "is_empty" = some (some (.ref (A_f_Piece_is_empty K))) := isR_ok (nthB hb 357)
theorem q_i_Piece_is_empty {K : PySem.W.Frag} (hb : (bsK K).all id = true) : PySem.W.isFn K (.ref (A_f_Piece_is_empty K)) = true := dok (nthB hb 358)
theorem q_d_Piece_is_empty {K : PySem.W.Frag} (hb : (bsK K).all id = true) : PySem.W.codeIn K (fdK K (A_f_Piece_is_empty K)).code "Piece.is_empty" = true := dok (nthB hb 359)
theorem q_k_Piece_is_empty {K : PySem.W.Frag} (hb : (bsK K).all id = true) : PySem.W.keepIn K (.ref (A_f_Piece_is_empty K)) = true := dok (nthB hb 360)
theorem q_a_rows_of {K : PySem.W.Frag} (hb : (bsK K).all id = true) : PySem.W.nsIn K mainGlobals "rows_of" = some (some (.ref (A_f_rows_of K))) := isR_ok (nthB hb 361)
theorem q_d_rows_of {K : PySem.W.Frag} (hb : (bsK K).all id = true) : PySem.W.codeIn K (fdK K (A_f_rows_of K)).code "rows_of" = true := dok (nthB hb 362)
theorem q_k_rows_of {K : PySem.W.Frag} (hb : (bsK K).all id = true) : PySem.W.keepIn K (.ref (A_f_rows_of K)) = true := dok (nthB hb 363)
theorem q_a_Piece_has {K : PySem.W.Frag} (hb : (bsK K).all id = true) : PySem.W.findIn K (.ref (A_c_Piece K)) "has" = some (some (.ref (A_f_Piece_has K))) := isR_ok (nthB hb 364)
theorem q_i_Piece_has {K : PySem.W.Frag} (hb : (bsK K).all id = true) : PySem.W.isFn K (.ref (A_f_Piece_has K)) = true := dok (nthB hb 365)
theorem q_d_Piece_has {K : PySem.W.Frag} (hb : (bsK K).all id = true) : PySem.W.codeIn K (fdK K (A_f_Piece_has K)).code "Piece.has" = true := dok (nthB hb 366)
theorem q_k_Piece_has {K : PySem.W.Frag} (hb : (bsK K).all id = true) : PySem.W.keepIn K (.ref (A_f_Piece_has K)) = true := dok (nthB hb 367)
theorem q_a__law_dice {K : PySem.W.Frag} (hb : (bsK K).all id = true) : PySem.W.nsIn K mainGlobals "_law_dice" = some (some (.ref (A_f__law_dice K))) := isR_ok (nthB hb 368)
theorem q_d__law_dice {K : PySem.W.Frag} (hb : (bsK K).all id = true) : PySem.W.codeIn K (fdK K (A_f__law_dice K)).code "_law_dice" = true := dok (nthB hb 369)
theorem q_k__law_dice {K : PySem.W.Frag} (hb : (bsK K).all id = true) : PySem.W.keepIn K (.ref (A_f__law_dice K)) = true := dok (nthB hb 370)
theorem q_a__law_draw {K : PySem.W.Frag} (hb : (bsK K).all id = true) : PySem.W.nsIn K mainGlobals "_law_draw" = some (some (.ref (A_f__law_draw K))) := isR_ok (nthB hb 371)
theorem q_d__law_draw {K : PySem.W.Frag} (hb : (bsK K).all id = true) : PySem.W.codeIn K (fdK K (A_f__law_draw K)).code "_law_draw" = true := dok (nthB hb 372)
theorem q_k__law_draw {K : PySem.W.Frag} (hb : (bsK K).all id = true) : PySem.W.keepIn K (.ref (A_f__law_draw K)) = true := dok (nthB hb 373)
theorem q_a__law_wide {K : PySem.W.Frag} (hb : (bsK K).all id = true) : PySem.W.nsIn K mainGlobals "_law_wide" = some (some (.ref (A_f__law_wide K))) := isR_ok (nthB hb 374)
theorem q_d__law_wide {K : PySem.W.Frag} (hb : (bsK K).all id = true) : PySem.W.codeIn K (fdK K (A_f__law_wide K)).code "_law_wide" = true := dok (nthB hb 375)
theorem q_k__law_wide {K : PySem.W.Frag} (hb : (bsK K).all id = true) : PySem.W.keepIn K (.ref (A_f__law_wide K)) = true := dok (nthB hb 376)
theorem q_a_check_floor {K : PySem.W.Frag} (hb : (bsK K).all id = true) : PySem.W.nsIn K mainGlobals "check_floor" = some (some (.ref (A_f_check_floor K))) := isR_ok (nthB hb 377)
theorem q_d_check_floor {K : PySem.W.Frag} (hb : (bsK K).all id = true) : PySem.W.codeIn K (fdK K (A_f_check_floor K)).code "check_floor" = true := dok (nthB hb 378)
theorem q_k_check_floor {K : PySem.W.Frag} (hb : (bsK K).all id = true) : PySem.W.keepIn K (.ref (A_f_check_floor K)) = true := dok (nthB hb 379)
theorem q_a_check_many {K : PySem.W.Frag} (hb : (bsK K).all id = true) : PySem.W.nsIn K mainGlobals "check_many" = some (some (.ref (A_f_check_many K))) := isR_ok (nthB hb 380)
theorem q_d_check_many {K : PySem.W.Frag} (hb : (bsK K).all id = true) : PySem.W.codeIn K (fdK K (A_f_check_many K)).code "check_many" = true := dok (nthB hb 381)
theorem q_k_check_many {K : PySem.W.Frag} (hb : (bsK K).all id = true) : PySem.W.keepIn K (.ref (A_f_check_many K)) = true := dok (nthB hb 382)
theorem q_a_factor {K : PySem.W.Frag} (hb : (bsK K).all id = true) : PySem.W.nsIn K mainGlobals "factor" = some (some (.ref (A_f_factor K))) := isR_ok (nthB hb 383)
theorem q_d_factor {K : PySem.W.Frag} (hb : (bsK K).all id = true) : PySem.W.codeIn K (fdK K (A_f_factor K)).code "factor" = true := dok (nthB hb 384)
theorem q_k_factor {K : PySem.W.Frag} (hb : (bsK K).all id = true) : PySem.W.keepIn K (.ref (A_f_factor K)) = true := dok (nthB hb 385)
theorem q_a_scaled {K : PySem.W.Frag} (hb : (bsK K).all id = true) : PySem.W.nsIn K mainGlobals "scaled" = some (some (.ref (A_f_scaled K))) := isR_ok (nthB hb 386)
theorem q_d_scaled {K : PySem.W.Frag} (hb : (bsK K).all id = true) : PySem.W.codeIn K (fdK K (A_f_scaled K)).code "scaled" = true := dok (nthB hb 387)
theorem q_k_scaled {K : PySem.W.Frag} (hb : (bsK K).all id = true) : PySem.W.keepIn K (.ref (A_f_scaled K)) = true := dok (nthB hb 388)
theorem q_a_led {K : PySem.W.Frag} (hb : (bsK K).all id = true) : PySem.W.nsIn K mainGlobals "led" = some (some (.ref (A_f_led K))) := isR_ok (nthB hb 389)
theorem q_d_led {K : PySem.W.Frag} (hb : (bsK K).all id = true) : PySem.W.codeIn K (fdK K (A_f_led K)).code "led" = true := dok (nthB hb 390)
theorem q_k_led {K : PySem.W.Frag} (hb : (bsK K).all id = true) : PySem.W.keepIn K (.ref (A_f_led K)) = true := dok (nthB hb 391)
theorem q_a_greater_floor {K : PySem.W.Frag} (hb : (bsK K).all id = true) : PySem.W.nsIn K mainGlobals "greater_floor" = some (some (.ref (A_f_greater_floor K))) := isR_ok (nthB hb 392)
theorem q_d_greater_floor {K : PySem.W.Frag} (hb : (bsK K).all id = true) : PySem.W.codeIn K (fdK K (A_f_greater_floor K)).code "greater_floor" = true := dok (nthB hb 393)
theorem q_k_greater_floor {K : PySem.W.Frag} (hb : (bsK K).all id = true) : PySem.W.keepIn K (.ref (A_f_greater_floor K)) = true := dok (nthB hb 394)
theorem q_a_lesser_floor {K : PySem.W.Frag} (hb : (bsK K).all id = true) : PySem.W.nsIn K mainGlobals "lesser_floor" = some (some (.ref (A_f_lesser_floor K))) := isR_ok (nthB hb 395)
theorem q_d_lesser_floor {K : PySem.W.Frag} (hb : (bsK K).all id = true) : PySem.W.codeIn K (fdK K (A_f_lesser_floor K)).code "lesser_floor" = true := dok (nthB hb 396)
theorem q_k_lesser_floor {K : PySem.W.Frag} (hb : (bsK K).all id = true) : PySem.W.keepIn K (.ref (A_f_lesser_floor K)) = true := dok (nthB hb 397)
theorem q_a_led_up {K : PySem.W.Frag} (hb : (bsK K).all id = true) : PySem.W.nsIn K mainGlobals "led_up" = some (some (.ref (A_f_led_up K))) := isR_ok (nthB hb 398)
theorem q_d_led_up {K : PySem.W.Frag} (hb : (bsK K).all id = true) : PySem.W.codeIn K (fdK K (A_f_led_up K)).code "led_up" = true := dok (nthB hb 399)
theorem q_k_led_up {K : PySem.W.Frag} (hb : (bsK K).all id = true) : PySem.W.keepIn K (.ref (A_f_led_up K)) = true := dok (nthB hb 400)
theorem q_a__law_is_half {K : PySem.W.Frag} (hb : (bsK K).all id = true) : PySem.W.nsIn K mainGlobals "_law_is_half" = some (some (.ref (A_f__law_is_half K))) := isR_ok (nthB hb 401)
theorem q_d__law_is_half {K : PySem.W.Frag} (hb : (bsK K).all id = true) : PySem.W.codeIn K (fdK K (A_f__law_is_half K)).code "_law_is_half" = true := dok (nthB hb 402)
theorem q_k__law_is_half {K : PySem.W.Frag} (hb : (bsK K).all id = true) : PySem.W.keepIn K (.ref (A_f__law_is_half K)) = true := dok (nthB hb 403)
theorem q_a__law_is_let {K : PySem.W.Frag} (hb : (bsK K).all id = true) : PySem.W.nsIn K mainGlobals "_law_is_let" = some (some (.ref (A_f__law_is_let K))) := isR_ok (nthB hb 404)
theorem q_d__law_is_let {K : PySem.W.Frag} (hb : (bsK K).all id = true) : PySem.W.codeIn K (fdK K (A_f__law_is_let K)).code "_law_is_let" = true := dok (nthB hb 405)
theorem q_k__law_is_let {K : PySem.W.Frag} (hb : (bsK K).all id = true) : PySem.W.keepIn K (.ref (A_f__law_is_let K)) = true := dok (nthB hb 406)
theorem q_a__law_let {K : PySem.W.Frag} (hb : (bsK K).all id = true) : PySem.W.nsIn K mainGlobals "_law_let" = some (some (.ref (A_f__law_let K))) := isR_ok (nthB hb 407)
theorem q_d__law_let {K : PySem.W.Frag} (hb : (bsK K).all id = true) : PySem.W.codeIn K (fdK K (A_f__law_let K)).code "_law_let" = true := dok (nthB hb 408)
theorem q_k__law_let {K : PySem.W.Frag} (hb : (bsK K).all id = true) : PySem.W.keepIn K (.ref (A_f__law_let K)) = true := dok (nthB hb 409)
theorem q_a__law_shift {K : PySem.W.Frag} (hb : (bsK K).all id = true) : PySem.W.nsIn K mainGlobals "_law_shift" = some (some (.ref (A_f__law_shift K))) := isR_ok (nthB hb 410)
theorem q_d__law_shift {K : PySem.W.Frag} (hb : (bsK K).all id = true) : PySem.W.codeIn K (fdK K (A_f__law_shift K)).code "_law_shift" = true := dok (nthB hb 411)
theorem q_k__law_shift {K : PySem.W.Frag} (hb : (bsK K).all id = true) : PySem.W.keepIn K (.ref (A_f__law_shift K)) = true := dok (nthB hb 412)
theorem q_a__law_led {K : PySem.W.Frag} (hb : (bsK K).all id = true) : PySem.W.nsIn K mainGlobals "_law_led" = some (some (.ref (A_f__law_led K))) := isR_ok (nthB hb 413)
theorem q_d__law_led {K : PySem.W.Frag} (hb : (bsK K).all id = true) : PySem.W.codeIn K (fdK K (A_f__law_led K)).code "_law_led" = true := dok (nthB hb 414)
theorem q_k__law_led {K : PySem.W.Frag} (hb : (bsK K).all id = true) : PySem.W.keepIn K (.ref (A_f__law_led K)) = true := dok (nthB hb 415)
theorem q_a__law_number {K : PySem.W.Frag} (hb : (bsK K).all id = true) : PySem.W.nsIn K mainGlobals "_law_number" = some (some (.ref (A_f__law_number K))) := isR_ok (nthB hb 416)
theorem q_d__law_number {K : PySem.W.Frag} (hb : (bsK K).all id = true) : PySem.W.codeIn K (fdK K (A_f__law_number K)).code "_law_number" = true := dok (nthB hb 417)
theorem q_k__law_number {K : PySem.W.Frag} (hb : (bsK K).all id = true) : PySem.W.keepIn K (.ref (A_f__law_number K)) = true := dok (nthB hb 418)
theorem q_a__law_point {K : PySem.W.Frag} (hb : (bsK K).all id = true) : PySem.W.nsIn K mainGlobals "_law_point" = some (some (.ref (A_f__law_point K))) := isR_ok (nthB hb 419)
theorem q_d__law_point {K : PySem.W.Frag} (hb : (bsK K).all id = true) : PySem.W.codeIn K (fdK K (A_f__law_point K)).code "_law_point" = true := dok (nthB hb 420)
theorem q_k__law_point {K : PySem.W.Frag} (hb : (bsK K).all id = true) : PySem.W.keepIn K (.ref (A_f__law_point K)) = true := dok (nthB hb 421)
theorem q_a__law_is_integer {K : PySem.W.Frag} (hb : (bsK K).all id = true) : PySem.W.nsIn K mainGlobals "_law_is_integer" = some (some (.ref (A_f__law_is_integer K))) := isR_ok (nthB hb 422)
theorem q_d__law_is_integer {K : PySem.W.Frag} (hb : (bsK K).all id = true) : PySem.W.codeIn K (fdK K (A_f__law_is_integer K)).code "_law_is_integer" = true := dok (nthB hb 423)
theorem q_k__law_is_integer {K : PySem.W.Frag} (hb : (bsK K).all id = true) : PySem.W.keepIn K (.ref (A_f__law_is_integer K)) = true := dok (nthB hb 424)
theorem q_a__law_is_root {K : PySem.W.Frag} (hb : (bsK K).all id = true) : PySem.W.nsIn K mainGlobals "_law_is_root" = some (some (.ref (A_f__law_is_root K))) := isR_ok (nthB hb 425)
theorem q_d__law_is_root {K : PySem.W.Frag} (hb : (bsK K).all id = true) : PySem.W.codeIn K (fdK K (A_f__law_is_root K)).code "_law_is_root" = true := dok (nthB hb 426)
theorem q_k__law_is_root {K : PySem.W.Frag} (hb : (bsK K).all id = true) : PySem.W.keepIn K (.ref (A_f__law_is_root K)) = true := dok (nthB hb 427)
theorem q_a__law_is_floor {K : PySem.W.Frag} (hb : (bsK K).all id = true) : PySem.W.nsIn K mainGlobals "_law_is_floor" = some (some (.ref (A_f__law_is_floor K))) := isR_ok (nthB hb 428)
theorem q_d__law_is_floor {K : PySem.W.Frag} (hb : (bsK K).all id = true) : PySem.W.codeIn K (fdK K (A_f__law_is_floor K)).code "_law_is_floor" = true := dok (nthB hb 429)
theorem q_k__law_is_floor {K : PySem.W.Frag} (hb : (bsK K).all id = true) : PySem.W.keepIn K (.ref (A_f__law_is_floor K)) = true := dok (nthB hb 430)
theorem q_a_Piece_eq {K : PySem.W.Frag} (hb : (bsK K).all id = true) : PySem.W.findIn K (.ref (A_c_Piece K)) "__eq__" = some (some (.ref (A_f_Piece_eq K))) := isR_ok (nthB hb 431)
theorem q_i_Piece_eq {K : PySem.W.Frag} (hb : (bsK K).all id = true) : PySem.W.isFn K (.ref (A_f_Piece_eq K)) = true := dok (nthB hb 432)
theorem q_d_Piece_eq {K : PySem.W.Frag} (hb : (bsK K).all id = true) : PySem.W.codeIn K (fdK K (A_f_Piece_eq K)).code "Piece.__eq__" = true := dok (nthB hb 433)
theorem q_k_Piece_eq {K : PySem.W.Frag} (hb : (bsK K).all id = true) : PySem.W.keepIn K (.ref (A_f_Piece_eq K)) = true := dok (nthB hb 434)
theorem q_a__law_no_floor {K : PySem.W.Frag} (hb : (bsK K).all id = true) : PySem.W.nsIn K mainGlobals "_law_no_floor" = some (some (.ref (A_f__law_no_floor K))) := isR_ok (nthB hb 435)
theorem q_d__law_no_floor {K : PySem.W.Frag} (hb : (bsK K).all id = true) : PySem.W.codeIn K (fdK K (A_f__law_no_floor K)).code "_law_no_floor" = true := dok (nthB hb 436)
theorem q_k__law_no_floor {K : PySem.W.Frag} (hb : (bsK K).all id = true) : PySem.W.keepIn K (.ref (A_f__law_no_floor K)) = true := dok (nthB hb 437)
theorem q_a__law_no_size {K : PySem.W.Frag} (hb : (bsK K).all id = true) : PySem.W.nsIn K mainGlobals "_law_no_size" = some (some (.ref (A_f__law_no_size K))) := isR_ok (nthB hb 438)
theorem q_d__law_no_size {K : PySem.W.Frag} (hb : (bsK K).all id = true) : PySem.W.codeIn K (fdK K (A_f__law_no_size K)).code "_law_no_size" = true := dok (nthB hb 439)
theorem q_k__law_no_size {K : PySem.W.Frag} (hb : (bsK K).all id = true) : PySem.W.keepIn K (.ref (A_f__law_no_size K)) = true := dok (nthB hb 440)
theorem q_a__law_told {K : PySem.W.Frag} (hb : (bsK K).all id = true) : PySem.W.nsIn K mainGlobals "_law_told" = some (some (.ref (A_f__law_told K))) := isR_ok (nthB hb 441)
theorem q_d__law_told {K : PySem.W.Frag} (hb : (bsK K).all id = true) : PySem.W.codeIn K (fdK K (A_f__law_told K)).code "_law_told" = true := dok (nthB hb 442)
theorem q_k__law_told {K : PySem.W.Frag} (hb : (bsK K).all id = true) : PySem.W.keepIn K (.ref (A_f__law_told K)) = true := dok (nthB hb 443)
theorem q_a__law_both_refused {K : PySem.W.Frag} (hb : (bsK K).all id = true) : PySem.W.nsIn K mainGlobals "_law_both_refused" = some (some (.ref (A_f__law_both_refused K))) := isR_ok (nthB hb 444)
theorem q_d__law_both_refused {K : PySem.W.Frag} (hb : (bsK K).all id = true) : PySem.W.codeIn K (fdK K (A_f__law_both_refused K)).code "_law_both_refused" = true := dok (nthB hb 445)
theorem q_k__law_both_refused {K : PySem.W.Frag} (hb : (bsK K).all id = true) : PySem.W.keepIn K (.ref (A_f__law_both_refused K)) = true := dok (nthB hb 446)
theorem q_a__law_refusals {K : PySem.W.Frag} (hb : (bsK K).all id = true) : PySem.W.nsIn K mainGlobals "_law_refusals" = some (some (.ref (A_f__law_refusals K))) := isR_ok (nthB hb 447)
theorem q_d__law_refusals {K : PySem.W.Frag} (hb : (bsK K).all id = true) : PySem.W.codeIn K (fdK K (A_f__law_refusals K)).code "_law_refusals" = true := dok (nthB hb 448)
theorem q_k__law_refusals {K : PySem.W.Frag} (hb : (bsK K).all id = true) : PySem.W.keepIn K (.ref (A_f__law_refusals K)) = true := dok (nthB hb 449)
theorem q_a_law {K : PySem.W.Frag} (hb : (bsK K).all id = true) : PySem.W.nsIn K mainGlobals "law" = some (some (.ref (A_f_law K))) := isR_ok (nthB hb 450)
theorem q_d_law {K : PySem.W.Frag} (hb : (bsK K).all id = true) : PySem.W.codeIn K (fdK K (A_f_law K)).code "law" = true := dok (nthB hb 451)
theorem q_k_law {K : PySem.W.Frag} (hb : (bsK K).all id = true) : PySem.W.keepIn K (.ref (A_f_law K)) = true := dok (nthB hb 452)
end L2.My
open PySem PySem.W PySem.Calls PyProof.Rows in
set_option maxRecDepth 100000 in
set_option maxHeartbeats 0 in
theorem PySem.Challenge.cw_threetiles_k63_floors_led_up_and_back_holds : PySem.Challenge.rw_threetiles_k63_floors_led_up_and_back.Holds := by
  w_on; o_law
  refine HandSHeadRun.head_imp (r := PySem.W.OpenLaw.row PySem.Challenge.rw_threetiles_k63_floors_led_up_and_back) (q := view (PySem.W.OpenLaw.row PySem.Challenge.rw_threetiles_k63_floors_led_up_and_back).prog [98]) (H := L2.My.hookF L2.My.nsK L2.My.bsK L2.My.fsK L2.My.wsK) (ob := L2.My.obF L2.My.nsK L2.My.bsK L2.My.fsK) (M := 20000) (loose := L2.My.namesK) (d := HandSHeadRun.topDef (PySem.W.OpenLaw.row PySem.Challenge.rw_threetiles_k63_floors_led_up_and_back).prog 98) (kwd := []) L2.My.obF_eq
    L2.My.runH (by kernel_rfl) (by kernel_rfl) (by kernel_rfl) (by rfl) (by first | assumption | decide +kernel) (by decide +kernel) ⟨rfl, rfl, rfl, rfl, rfl, by decide +kernel⟩ ?hw ?hc
  case hw => w_witness2
  case hc =>
    refine L2.My.walk_ofEW (l := PySem.Challenge.rw_threetiles_k63_floors_led_up_and_back) (n := 63) (k := 15) (x := "script") (CX := fun w => L2.CX (PySem.Challenge.rw_threetiles_k63_floors_led_up_and_back).prog w) rfl (by decide) (by kernel_rfl) ⟨rfl, by decide, by decide⟩ ?F (fun _ _ _ _ _ z => L2.My.cx_no z)
    intro w mg fa h Y G hmg0
    obtain ⟨K, KX, hb, hf⟩ := Y
    have hmg : mg ("law" : PySem.Str) = some (.ref fa) := by
      have e : (HandSHeadRun.topDef (PySem.W.OpenLaw.row PySem.Challenge.rw_threetiles_k63_floors_led_up_and_back).prog 98).name = ("law" : PySem.Str) := by kernel_rfl
      rw [← e]
      exact hmg0
    obtain ⟨_, e_L_BadNumber⟩ := L2.My.excB_ok (L2.My.nthB hb 77)
    obtain ⟨_, e_L_BadPoint⟩ := L2.My.excB_ok (L2.My.nthB hb 90)
    obtain ⟨_, e_L_BadCorner⟩ := L2.My.excB_ok (L2.My.nthB hb 103)
    obtain ⟨_, e_L_Barred⟩ := L2.My.excB_ok (L2.My.nthB hb 116)
    obtain ⟨_, e_L_BadSize⟩ := L2.My.excB_ok (L2.My.nthB hb 129)
    obtain ⟨_, e_L_BadBounds⟩ := L2.My.excB_ok (L2.My.nthB hb 142)
    obtain ⟨_, e_L_BadFloor⟩ := L2.My.excB_ok (L2.My.nthB hb 155)
    obtain ⟨fd, h1, h2⟩ := L2.My.all_mk (P := (PySem.Challenge.rw_threetiles_k63_floors_led_up_and_back).prog) (w := w) (c_VECTORS := L2.My.A_c_VECTORS K) (c_ODD_PRESSES := L2.My.A_c_ODD_PRESSES K) (c_EVEN_PRESSES := L2.My.A_c_EVEN_PRESSES K) (c_BARRING := L2.My.A_c_BARRING K) (c_FloorError := L2.My.A_c_FloorError K) (c_BadNumber := L2.My.A_c_BadNumber K) (c_BadPoint := L2.My.A_c_BadPoint K) (c_BadCorner := L2.My.A_c_BadCorner K) (c_Barred := L2.My.A_c_Barred K) (c_BadSize := L2.My.A_c_BadSize K) (c_BadBounds := L2.My.A_c_BadBounds K) (c_BadFloor := L2.My.A_c_BadFloor K) (c_Root := L2.My.A_c_Root K) (c_Floor := L2.My.A_c_Floor K) (c_Piece := L2.My.A_c_Piece K) (gAX := L2.My.A_gAX K) (gSX := L2.My.A_gSX K) (gMX := L2.My.A_gMX K) (f_is_integral := L2.My.A_f_is_integral K) (f_BadPoint_init := L2.My.A_f_BadPoint_init K) (f_BadCorner_init := L2.My.A_f_BadCorner_init K) (f_Barred_init := L2.My.A_f_Barred_init K) (f_BadSize_init := L2.My.A_f_BadSize_init K) (f_BadBounds_init := L2.My.A_f_BadBounds_init K) (f_BadFloor_init := L2.My.A_f_BadFloor_init K) (f_BadNumber_init := L2.My.A_f_BadNumber_init K) (f_Root_init := L2.My.A_f_Root_init K) (f_Root_eq := L2.My.A_f_Root_eq K) (f_Root_neg := L2.My.A_f_Root_neg K) (f_is_number := L2.My.A_f_is_number K) (f_as_root := L2.My.A_f_as_root K) (f_surd_sign := L2.My.A_f_surd_sign K) (f_Root_add := L2.My.A_f_Root_add K) (f_Root_sub := L2.My.A_f_Root_sub K) (f_Root_mul := L2.My.A_f_Root_mul K) (f_Root_radd := L2.My.A_f_Root_radd K) (f_Root_rmul := L2.My.A_f_Root_rmul K) (f_Root_rsub := L2.My.A_f_Root_rsub K) (f_Root_over := L2.My.A_f_Root_over K) (f_Root_less := L2.My.A_f_Root_less K) (f_Root_sign := L2.My.A_f_Root_sign K) (f_is_corner := L2.My.A_f_is_corner K) (f_check_corner := L2.My.A_f_check_corner K) (f_step := L2.My.A_f_step K) (f_is_point := L2.My.A_f_is_point K) (f_as_roots := L2.My.A_f_as_roots K) (f_check_point := L2.My.A_f_check_point K) (f_is_half := L2.My.A_f_is_half K) (f_bars_evenly := L2.My.A_f_bars_evenly K) (f_bars_oddly := L2.My.A_f_bars_oddly K) (f_barred := L2.My.A_f_barred K) (f_gauge_of := L2.My.A_f_gauge_of K) (f_beside := L2.My.A_f_beside K) (f_in_window := L2.My.A_f_in_window K) (f_Floor_init := L2.My.A_f_Floor_init K) (f_Floor_has_corner := L2.My.A_f_Floor_has_corner K) (f_Floor_eq := L2.My.A_f_Floor_eq K) (f_is_bound := L2.My.A_f_is_bound K) (f_check_bounds := L2.My.A_f_check_bounds K) (f_toward := L2.My.A_f_toward K) (f_least_indexes := L2.My.A_f_least_indexes K) (f_least_numbers := L2.My.A_f_least_numbers K) (f_over_common := L2.My.A_f_over_common K) (f_pair_sum := L2.My.A_f_pair_sum K) (f_presses_on := L2.My.A_f_presses_on K) (f_barring_parts := L2.My.A_f_barring_parts K) (f_least_pair := L2.My.A_f_least_pair K) (f_tightened := L2.My.A_f_tightened K) (f_Piece_init := L2.My.A_f_Piece_init K) (f_Piece_is_empty := L2.My.A_f_Piece_is_empty K) (f_rows_of := L2.My.A_f_rows_of K) (f_Piece_has := L2.My.A_f_Piece_has K) (f__law_dice := L2.My.A_f__law_dice K) (f__law_draw := L2.My.A_f__law_draw K) (f__law_wide := L2.My.A_f__law_wide K) (f_check_floor := L2.My.A_f_check_floor K) (f_check_many := L2.My.A_f_check_many K) (f_factor := L2.My.A_f_factor K) (f_scaled := L2.My.A_f_scaled K) (f_led := L2.My.A_f_led K) (f_greater_floor := L2.My.A_f_greater_floor K) (f_lesser_floor := L2.My.A_f_lesser_floor K) (f_led_up := L2.My.A_f_led_up K) (f__law_is_half := L2.My.A_f__law_is_half K) (f__law_is_let := L2.My.A_f__law_is_let K) (f__law_let := L2.My.A_f__law_let K) (f__law_shift := L2.My.A_f__law_shift K) (f__law_led := L2.My.A_f__law_led K) (f__law_number := L2.My.A_f__law_number K) (f__law_point := L2.My.A_f__law_point K) (f__law_is_integer := L2.My.A_f__law_is_integer K) (f__law_is_root := L2.My.A_f__law_is_root K) (f__law_is_floor := L2.My.A_f__law_is_floor K) (f_Piece_eq := L2.My.A_f_Piece_eq K) (f__law_no_floor := L2.My.A_f__law_no_floor K) (f__law_no_size := L2.My.A_f__law_no_size K) (f__law_told := L2.My.A_f__law_told K) (f__law_both_refused := L2.My.A_f__law_both_refused K) (f__law_refusals := L2.My.A_f__law_refusals K) (f_law := L2.My.A_f_law K) KX G hmg (L2.My.q_gi_MOST_BOUNDS hb) (L2.My.q_gi_MOST_LED hb) (L2.My.q_r_VECTORS hb) (L2.My.q_r_ODD_PRESSES hb) (L2.My.q_r_EVEN_PRESSES hb) (L2.My.q_r_BARRING hb) (L2.My.q_kd_VECTORS hb) (L2.My.q_kd_ODD_PRESSES hb) (L2.My.q_kd_EVEN_PRESSES hb) (L2.My.q_kd_BARRING hb) (L2.My.q_r_FloorError hb) (L2.My.q_r_BadNumber hb) (L2.My.q_r_BadPoint hb) (L2.My.q_r_BadCorner hb) (L2.My.q_r_Barred hb) (L2.My.q_r_BadSize hb) (L2.My.q_r_BadBounds hb) (L2.My.q_r_BadFloor hb) (L2.My.q_r_Root hb) (L2.My.q_r_Floor hb) (L2.My.q_r_Piece hb) (L2.My.q_r_gcd hb) (L2.My.q_r_lcm hb) (L2.My.q_r_isinstance hb) (L2.My.q_r_all hb) (L2.My.q_r_len hb) (L2.My.q_r_tuple hb) (L2.My.q_r_list hb) (L2.My.q_r_range hb) (L2.My.q_r_enumerate hb) (L2.My.q_r_int hb) (L2.My.q_r_abs hb) (L2.My.q_r_bool hb) (L2.My.q_r_ValueError hb) (L2.My.q_r_pg hb) (L2.My.q_r_hd hb) (L2.My.q_r_po hb) (L2.My.q_r_sa hb) (L2.My.q_r_ca hb) (L2.My.q_r_hm hb) (L2.My.q_r_ic hb) (L2.My.q_r_tc hb) (L2.My.q_r_s1 hb) (L2.My.q_r_s2 hb) (L2.My.q_r_nt hb) (L2.My.q_r_nr hb) (L2.My.q_r_nb hb) (L2.My.q_r_sf hb) (L2.My.q_r_ra hb) (L2.My.q_r_rs hb) (L2.My.q_r_rm hb) (L2.My.q_o_pg_Floor hb) (L2.My.q_o_hd_Floor hb) (L2.My.q_o_po_Floor hb) (L2.My.q_o_sa_Floor hb) (L2.My.q_o_ca_Floor hb) (L2.My.q_o_hm_Floor hb) (L2.My.q_o_ic_Floor hb) (L2.My.q_o_tc_Floor hb) (L2.My.q_o_s1_Floor hb) (L2.My.q_o_s2_Floor hb) (L2.My.q_o_nf_Floor_shift hb) (L2.My.q_o_nf_Floor__gauge hb) (L2.My.q_o_pg_Piece hb) (L2.My.q_o_hd_Piece hb) (L2.My.q_o_po_Piece hb) (L2.My.q_o_sa_Piece hb) (L2.My.q_o_ca_Piece hb) (L2.My.q_o_hm_Piece hb) (L2.My.q_o_ic_Piece hb) (L2.My.q_o_tc_Piece hb) (L2.My.q_o_s1_Piece hb) (L2.My.q_o_s2_Piece hb) (L2.My.q_o_nf_Piece_bounds hb) (L2.My.q_o_ms_Floor hb) (L2.My.q_o_no_Root_Floor hb) (L2.My.q_o_no_Piece_Floor hb) e_L_BadNumber (L2.My.q_e_sa_BadNumber hb) (L2.My.q_e_e_BadNumber hb) (L2.My.q_e_t_BadNumber hb) (L2.My.q_e_k_BadNumber hb) (L2.My.q_e_n_BadNumber hb) (L2.My.q_e_ga_BadNumber hb) (L2.My.q_e_gg_BadNumber hb) (L2.My.q_e_hd_BadNumber hb) (L2.My.q_e_ic_BadNumber hb) (L2.My.q_e_s_BadNumber hb) (L2.My.q_e_ca_BadNumber hb) (L2.My.q_e_hm_BadNumber hb) e_L_BadPoint (L2.My.q_e_sa_BadPoint hb) (L2.My.q_e_e_BadPoint hb) (L2.My.q_e_t_BadPoint hb) (L2.My.q_e_k_BadPoint hb) (L2.My.q_e_n_BadPoint hb) (L2.My.q_e_ga_BadPoint hb) (L2.My.q_e_gg_BadPoint hb) (L2.My.q_e_hd_BadPoint hb) (L2.My.q_e_ic_BadPoint hb) (L2.My.q_e_s_BadPoint hb) (L2.My.q_e_ca_BadPoint hb) (L2.My.q_e_hm_BadPoint hb) e_L_BadCorner (L2.My.q_e_sa_BadCorner hb) (L2.My.q_e_e_BadCorner hb) (L2.My.q_e_t_BadCorner hb) (L2.My.q_e_k_BadCorner hb) (L2.My.q_e_n_BadCorner hb) (L2.My.q_e_ga_BadCorner hb) (L2.My.q_e_gg_BadCorner hb) (L2.My.q_e_hd_BadCorner hb) (L2.My.q_e_ic_BadCorner hb) (L2.My.q_e_s_BadCorner hb) (L2.My.q_e_ca_BadCorner hb) (L2.My.q_e_hm_BadCorner hb) e_L_Barred (L2.My.q_e_sa_Barred hb) (L2.My.q_e_e_Barred hb) (L2.My.q_e_t_Barred hb) (L2.My.q_e_k_Barred hb) (L2.My.q_e_n_Barred hb) (L2.My.q_e_ga_Barred hb) (L2.My.q_e_gg_Barred hb) (L2.My.q_e_hd_Barred hb) (L2.My.q_e_ic_Barred hb) (L2.My.q_e_s_Barred hb) (L2.My.q_e_ca_Barred hb) (L2.My.q_e_hm_Barred hb) e_L_BadSize (L2.My.q_e_sa_BadSize hb) (L2.My.q_e_e_BadSize hb) (L2.My.q_e_t_BadSize hb) (L2.My.q_e_k_BadSize hb) (L2.My.q_e_n_BadSize hb) (L2.My.q_e_ga_BadSize hb) (L2.My.q_e_gg_BadSize hb) (L2.My.q_e_hd_BadSize hb) (L2.My.q_e_ic_BadSize hb) (L2.My.q_e_s_BadSize hb) (L2.My.q_e_ca_BadSize hb) (L2.My.q_e_hm_BadSize hb) e_L_BadBounds (L2.My.q_e_sa_BadBounds hb) (L2.My.q_e_e_BadBounds hb) (L2.My.q_e_t_BadBounds hb) (L2.My.q_e_k_BadBounds hb) (L2.My.q_e_n_BadBounds hb) (L2.My.q_e_ga_BadBounds hb) (L2.My.q_e_gg_BadBounds hb) (L2.My.q_e_hd_BadBounds hb) (L2.My.q_e_ic_BadBounds hb) (L2.My.q_e_s_BadBounds hb) (L2.My.q_e_ca_BadBounds hb) (L2.My.q_e_hm_BadBounds hb) e_L_BadFloor (L2.My.q_e_sa_BadFloor hb) (L2.My.q_e_e_BadFloor hb) (L2.My.q_e_t_BadFloor hb) (L2.My.q_e_k_BadFloor hb) (L2.My.q_e_n_BadFloor hb) (L2.My.q_e_ga_BadFloor hb) (L2.My.q_e_gg_BadFloor hb) (L2.My.q_e_hd_BadFloor hb) (L2.My.q_e_ic_BadFloor hb) (L2.My.q_e_s_BadFloor hb) (L2.My.q_e_ca_BadFloor hb) (L2.My.q_e_hm_BadFloor hb) (L2.My.q_e_o_BadSize_BadFloor hb) (L2.My.q_e_o_BadFloor_BadSize hb) (L2.My.q_b_ic hb) (L2.My.q_b_tc hb) (L2.My.q_e_b_BadSize hb) (L2.My.q_e_v_BadSize hb) (L2.My.q_e_b_BadFloor hb) (L2.My.q_a_is_integral hb) (L2.My.fn_l (K := K) (f := L2.My.A_f_is_integral K) (n := "is_integral") (q := "is_integral") (st := L2.My.s_is_integral) (L2.My.nthF hf 0)) (L2.My.q_d_is_integral hb) (L2.My.q_k_is_integral hb) (L2.My.q_a_BadPoint_init hb) (L2.My.q_t_BadPoint_init hb) (L2.My.fn_l (K := K) (f := L2.My.A_f_BadPoint_init K) (n := "__init__") (q := "BadPoint.__init__") (st := L2.My.s_BadPoint_init) (L2.My.nthF hf 1)) (L2.My.q_d_BadPoint_init hb) (L2.My.q_k_BadPoint_init hb) (L2.My.q_a_BadCorner_init hb) (L2.My.q_t_BadCorner_init hb) (L2.My.fn_l (K := K) (f := L2.My.A_f_BadCorner_init K) (n := "__init__") (q := "BadCorner.__init__") (st := L2.My.s_BadCorner_init) (L2.My.nthF hf 2)) (L2.My.q_d_BadCorner_init hb) (L2.My.q_k_BadCorner_init hb) (L2.My.q_a_Barred_init hb) (L2.My.q_t_Barred_init hb) (L2.My.fn_l (K := K) (f := L2.My.A_f_Barred_init K) (n := "__init__") (q := "Barred.__init__") (st := L2.My.s_Barred_init) (L2.My.nthF hf 3)) (L2.My.q_d_Barred_init hb) (L2.My.q_k_Barred_init hb) (L2.My.q_a_BadSize_init hb) (L2.My.q_t_BadSize_init hb) (L2.My.fn_l (K := K) (f := L2.My.A_f_BadSize_init K) (n := "__init__") (q := "BadSize.__init__") (st := L2.My.s_BadSize_init) (L2.My.nthF hf 4)) (L2.My.q_d_BadSize_init hb) (L2.My.q_k_BadSize_init hb) (L2.My.q_a_BadBounds_init hb) (L2.My.q_t_BadBounds_init hb) (L2.My.fn_l (K := K) (f := L2.My.A_f_BadBounds_init K) (n := "__init__") (q := "BadBounds.__init__") (st := L2.My.s_BadBounds_init) (L2.My.nthF hf 5)) (L2.My.q_d_BadBounds_init hb) (L2.My.q_k_BadBounds_init hb) (L2.My.q_a_BadFloor_init hb) (L2.My.q_t_BadFloor_init hb) (L2.My.fn_l (K := K) (f := L2.My.A_f_BadFloor_init K) (n := "__init__") (q := "BadFloor.__init__") (st := L2.My.s_BadFloor_init) (L2.My.nthF hf 6)) (L2.My.q_d_BadFloor_init hb) (L2.My.q_k_BadFloor_init hb) (L2.My.q_a_BadNumber_init hb) (L2.My.q_t_BadNumber_init hb) (L2.My.fn_l (K := K) (f := L2.My.A_f_BadNumber_init K) (n := "__init__") (q := "BadNumber.__init__") (st := L2.My.s_BadNumber_init) (L2.My.nthF hf 7)) (L2.My.q_d_BadNumber_init hb) (L2.My.q_k_BadNumber_init hb) (L2.My.q_a_Root_init hb) (L2.My.q_i_Root_init hb) (L2.My.q_mk_Root_init hb) (L2.My.q_kc_Root_init hb) (L2.My.fn_l (K := K) (f := L2.My.A_f_Root_init K) (n := "__init__") (q := "Root.__init__") (st := L2.My.s_Root_init) (L2.My.nthF hf 8)) (L2.My.q_d_Root_init hb) (L2.My.q_k_Root_init hb) (L2.My.q_a_Root_eq hb) (L2.My.q_i_Root_eq hb) (L2.My.fn_l (K := K) (f := L2.My.A_f_Root_eq K) (n := "__eq__") (q := "Root.__eq__") (st := L2.My.s_Root_eq) (L2.My.nthF hf 9)) (L2.My.q_d_Root_eq hb) (L2.My.q_k_Root_eq hb) (L2.My.q_a_Root_neg hb) (L2.My.q_i_Root_neg hb) (L2.My.fn_l (K := K) (f := L2.My.A_f_Root_neg K) (n := "__neg__") (q := "Root.__neg__") (st := L2.My.s_Root_neg) (L2.My.nthF hf 10)) (L2.My.q_d_Root_neg hb) (L2.My.q_k_Root_neg hb) (L2.My.q_a_is_number hb) (L2.My.fn_l (K := K) (f := L2.My.A_f_is_number K) (n := "is_number") (q := "is_number") (st := L2.My.s_is_number) (L2.My.nthF hf 11)) (L2.My.q_d_is_number hb) (L2.My.q_k_is_number hb) (L2.My.q_a_as_root hb) (L2.My.fn_l (K := K) (f := L2.My.A_f_as_root K) (n := "as_root") (q := "as_root") (st := L2.My.s_as_root) (L2.My.nthF hf 12)) (L2.My.q_d_as_root hb) (L2.My.q_k_as_root hb) (L2.My.q_a_surd_sign hb) (L2.My.fn_l (K := K) (f := L2.My.A_f_surd_sign K) (n := "surd_sign") (q := "surd_sign") (st := L2.My.s_surd_sign) (L2.My.nthF hf 13)) (L2.My.q_d_surd_sign hb) (L2.My.q_k_surd_sign hb) (L2.My.q_a_Root_add hb) (L2.My.q_i_Root_add hb) (L2.My.fn_l (K := K) (f := L2.My.A_f_Root_add K) (n := "__add__") (q := "Root.__add__") (st := L2.My.s_Root_add) (L2.My.nthF hf 14)) (L2.My.q_d_Root_add hb) (L2.My.q_k_Root_add hb) (L2.My.q_a_Root_sub hb) (L2.My.q_i_Root_sub hb) (L2.My.fn_l (K := K) (f := L2.My.A_f_Root_sub K) (n := "__sub__") (q := "Root.__sub__") (st := L2.My.s_Root_sub) (L2.My.nthF hf 15)) (L2.My.q_d_Root_sub hb) (L2.My.q_k_Root_sub hb) (L2.My.q_a_Root_mul hb) (L2.My.q_i_Root_mul hb) (L2.My.fn_l (K := K) (f := L2.My.A_f_Root_mul K) (n := "__mul__") (q := "Root.__mul__") (st := L2.My.s_Root_mul) (L2.My.nthF hf 16)) (L2.My.q_d_Root_mul hb) (L2.My.q_k_Root_mul hb) (L2.My.q_a_Root_radd hb) (L2.My.q_i_Root_radd hb) (L2.My.fn_l (K := K) (f := L2.My.A_f_Root_radd K) (n := "__radd__") (q := "Root.__radd__") (st := L2.My.s_Root_radd) (L2.My.nthF hf 17)) (L2.My.q_d_Root_radd hb) (L2.My.q_k_Root_radd hb) (L2.My.q_a_Root_rmul hb) (L2.My.q_i_Root_rmul hb) (L2.My.fn_l (K := K) (f := L2.My.A_f_Root_rmul K) (n := "__rmul__") (q := "Root.__rmul__") (st := L2.My.s_Root_rmul) (L2.My.nthF hf 18)) (L2.My.q_d_Root_rmul hb) (L2.My.q_k_Root_rmul hb) (L2.My.q_a_Root_rsub hb) (L2.My.q_i_Root_rsub hb) (L2.My.fn_l (K := K) (f := L2.My.A_f_Root_rsub K) (n := "__rsub__") (q := "Root.__rsub__") (st := L2.My.s_Root_rsub) (L2.My.nthF hf 19)) (L2.My.q_d_Root_rsub hb) (L2.My.q_k_Root_rsub hb) (L2.My.q_a_Root_over hb) (L2.My.q_i_Root_over hb) (L2.My.fn_l (K := K) (f := L2.My.A_f_Root_over K) (n := "over") (q := "Root.over") (st := L2.My.s_Root_over) (L2.My.nthF hf 20)) (L2.My.q_d_Root_over hb) (L2.My.q_k_Root_over hb) (L2.My.q_a_Root_less hb) (L2.My.q_i_Root_less hb) (L2.My.fn_l (K := K) (f := L2.My.A_f_Root_less K) (n := "less") (q := "Root.less") (st := L2.My.s_Root_less) (L2.My.nthF hf 21)) (L2.My.q_d_Root_less hb) (L2.My.q_k_Root_less hb) (L2.My.q_a_Root_sign hb) (L2.My.q_i_Root_sign hb) (L2.My.fn_l (K := K) (f := L2.My.A_f_Root_sign K) (n := "sign") (q := "Root.sign") (st := L2.My.s_Root_sign) (L2.My.nthF hf 22)) (L2.My.q_d_Root_sign hb) (L2.My.q_k_Root_sign hb) (L2.My.q_a_is_corner hb) (L2.My.fn_l (K := K) (f := L2.My.A_f_is_corner K) (n := "is_corner") (q := "is_corner") (st := L2.My.s_is_corner) (L2.My.nthF hf 23)) (L2.My.q_d_is_corner hb) (L2.My.q_k_is_corner hb) (L2.My.q_a_check_corner hb) (L2.My.fn_l (K := K) (f := L2.My.A_f_check_corner K) (n := "check_corner") (q := "check_corner") (st := L2.My.s_check_corner) (L2.My.nthF hf 24)) (L2.My.q_d_check_corner hb) (L2.My.q_k_check_corner hb) (L2.My.q_a_step hb) (L2.My.fn_l (K := K) (f := L2.My.A_f_step K) (n := "step") (q := "step") (st := L2.My.s_step) (L2.My.nthF hf 25)) (L2.My.q_d_step hb) (L2.My.q_k_step hb) (L2.My.q_a_is_point hb) (L2.My.fn_l (K := K) (f := L2.My.A_f_is_point K) (n := "is_point") (q := "is_point") (st := L2.My.s_is_point) (L2.My.nthF hf 26)) (L2.My.q_d_is_point hb) (L2.My.q_k_is_point hb) (L2.My.q_a_as_roots hb) (L2.My.fn_l (K := K) (f := L2.My.A_f_as_roots K) (n := "as_roots") (q := "as_roots") (st := L2.My.s_as_roots) (L2.My.nthF hf 27)) (L2.My.q_d_as_roots hb) (L2.My.q_k_as_roots hb) (L2.My.q_a_check_point hb) (L2.My.fn_l (K := K) (f := L2.My.A_f_check_point K) (n := "check_point") (q := "check_point") (st := L2.My.s_check_point) (L2.My.nthF hf 28)) (L2.My.q_d_check_point hb) (L2.My.q_k_check_point hb) (L2.My.q_a_is_half hb) (L2.My.fn_l (K := K) (f := L2.My.A_f_is_half K) (n := "is_half") (q := "is_half") (st := L2.My.s_is_half) (L2.My.nthF hf 29)) (L2.My.q_d_is_half hb) (L2.My.q_k_is_half hb) (L2.My.q_a_bars_evenly hb) (L2.My.fn_l (K := K) (f := L2.My.A_f_bars_evenly K) (n := "bars_evenly") (q := "bars_evenly") (st := L2.My.s_bars_evenly) (L2.My.nthF hf 30)) (L2.My.q_d_bars_evenly hb) (L2.My.q_k_bars_evenly hb) (L2.My.q_a_bars_oddly hb) (L2.My.fn_l (K := K) (f := L2.My.A_f_bars_oddly K) (n := "bars_oddly") (q := "bars_oddly") (st := L2.My.s_bars_oddly) (L2.My.nthF hf 31)) (L2.My.q_d_bars_oddly hb) (L2.My.q_k_bars_oddly hb) (L2.My.q_a_barred hb) (L2.My.fn_l (K := K) (f := L2.My.A_f_barred K) (n := "barred") (q := "barred") (st := L2.My.s_barred) (L2.My.nthF hf 32)) (L2.My.q_d_barred hb) (L2.My.q_k_barred hb) (L2.My.q_a_gauge_of hb) (L2.My.fn_l (K := K) (f := L2.My.A_f_gauge_of K) (n := "gauge_of") (q := "gauge_of") (st := L2.My.s_gauge_of) (L2.My.nthF hf 33)) (L2.My.q_d_gauge_of hb) (L2.My.q_k_gauge_of hb) (L2.My.q_a_beside hb) (L2.My.fn_l (K := K) (f := L2.My.A_f_beside K) (n := "beside") (q := "beside") (st := L2.My.s_beside) (L2.My.nthF hf 34)) (L2.My.q_d_beside hb) (L2.My.q_k_beside hb) (L2.My.q_a_in_window hb) (L2.My.fn_l (K := K) (f := L2.My.A_f_in_window K) (n := "in_window") (q := "in_window") (st := L2.My.s_in_window) (L2.My.nthF hf 35)) (L2.My.q_d_in_window hb) (L2.My.q_k_in_window hb) (L2.My.q_a_Floor_init hb) (L2.My.q_i_Floor_init hb) (L2.My.q_mk_Floor_init hb) (L2.My.q_kc_Floor_init hb) (L2.My.fn_l (K := K) (f := L2.My.A_f_Floor_init K) (n := "__init__") (q := "Floor.__init__") (st := L2.My.s_Floor_init) (L2.My.nthF hf 36)) (L2.My.q_d_Floor_init hb) (L2.My.q_k_Floor_init hb) (L2.My.q_a_Floor_has_corner hb) (L2.My.q_i_Floor_has_corner hb) (L2.My.fn_l (K := K) (f := L2.My.A_f_Floor_has_corner K) (n := "has_corner") (q := "Floor.has_corner") (st := L2.My.s_Floor_has_corner) (L2.My.nthF hf 37)) (L2.My.q_d_Floor_has_corner hb) (L2.My.q_k_Floor_has_corner hb) (L2.My.q_a_Floor_eq hb) (L2.My.q_i_Floor_eq hb) (L2.My.fn_l (K := K) (f := L2.My.A_f_Floor_eq K) (n := "__eq__") (q := "Floor.__eq__") (st := L2.My.s_Floor_eq) (L2.My.nthF hf 38)) (L2.My.q_d_Floor_eq hb) (L2.My.q_k_Floor_eq hb) (L2.My.q_a_is_bound hb) (L2.My.fn_l (K := K) (f := L2.My.A_f_is_bound K) (n := "is_bound") (q := "is_bound") (st := L2.My.s_is_bound) (L2.My.nthF hf 39)) (L2.My.q_d_is_bound hb) (L2.My.q_k_is_bound hb) (L2.My.q_a_check_bounds hb) (L2.My.fn_l (K := K) (f := L2.My.A_f_check_bounds K) (n := "check_bounds") (q := "check_bounds") (st := L2.My.s_check_bounds) (L2.My.nthF hf 40)) (L2.My.q_d_check_bounds hb) (L2.My.q_k_check_bounds hb) (L2.My.q_a_toward hb) (L2.My.fn_l (K := K) (f := L2.My.A_f_toward K) (n := "toward") (q := "toward") (st := L2.My.s_toward) (L2.My.nthF hf 41)) (L2.My.q_d_toward hb) (L2.My.q_k_toward hb) (L2.My.q_a_least_indexes hb) (L2.My.fn_l (K := K) (f := L2.My.A_f_least_indexes K) (n := "least_indexes") (q := "least_indexes") (st := L2.My.s_least_indexes) (L2.My.nthF hf 42)) (L2.My.q_d_least_indexes hb) (L2.My.q_k_least_indexes hb) (L2.My.q_a_least_numbers hb) (L2.My.fn_l (K := K) (f := L2.My.A_f_least_numbers K) (n := "least_numbers") (q := "least_numbers") (st := L2.My.s_least_numbers) (L2.My.nthF hf 43)) (L2.My.q_d_least_numbers hb) (L2.My.q_k_least_numbers hb) (L2.My.q_a_over_common hb) (L2.My.fn_l (K := K) (f := L2.My.A_f_over_common K) (n := "over_common") (q := "over_common") (st := L2.My.s_over_common) (L2.My.nthF hf 44)) (L2.My.q_d_over_common hb) (L2.My.q_k_over_common hb) (L2.My.q_a_pair_sum hb) (L2.My.fn_l (K := K) (f := L2.My.A_f_pair_sum K) (n := "pair_sum") (q := "pair_sum") (st := L2.My.s_pair_sum) (L2.My.nthF hf 45)) (L2.My.q_d_pair_sum hb) (L2.My.q_k_pair_sum hb) (L2.My.q_a_presses_on hb) (L2.My.fn_l (K := K) (f := L2.My.A_f_presses_on K) (n := "presses_on") (q := "presses_on") (st := L2.My.s_presses_on) (L2.My.nthF hf 46)) (L2.My.q_d_presses_on hb) (L2.My.q_k_presses_on hb) (L2.My.q_a_barring_parts hb) (L2.My.fn_l (K := K) (f := L2.My.A_f_barring_parts K) (n := "barring_parts") (q := "barring_parts") (st := L2.My.s_barring_parts) (L2.My.nthF hf 47)) (L2.My.q_d_barring_parts hb) (L2.My.q_k_barring_parts hb) (L2.My.q_a_least_pair hb) (L2.My.fn_l (K := K) (f := L2.My.A_f_least_pair K) (n := "least_pair") (q := "least_pair") (st := L2.My.s_least_pair) (L2.My.nthF hf 48)) (L2.My.q_d_least_pair hb) (L2.My.q_k_least_pair hb) (L2.My.q_a_tightened hb) (L2.My.fn_l (K := K) (f := L2.My.A_f_tightened K) (n := "tightened") (q := "tightened") (st := L2.My.s_tightened) (L2.My.nthF hf 49)) (L2.My.q_d_tightened hb) (L2.My.q_k_tightened hb) (L2.My.q_a_Piece_init hb) (L2.My.q_i_Piece_init hb) (L2.My.q_mk_Piece_init hb) (L2.My.q_kc_Piece_init hb) (L2.My.fn_l (K := K) (f := L2.My.A_f_Piece_init K) (n := "__init__") (q := "Piece.__init__") (st := L2.My.s_Piece_init) (L2.My.nthF hf 50)) (L2.My.q_d_Piece_init hb) (L2.My.q_k_Piece_init hb) (L2.My.q_a_Piece_is_empty hb) (L2.My.q_i_Piece_is_empty hb) (L2.My.fn_l (K := K) (f := L2.My.A_f_Piece_is_empty K) (n := "is_empty") (q := "Piece.is_empty") (st := L2.My.s_Piece_is_empty) (L2.My.nthF hf 51)) (L2.My.q_d_Piece_is_empty hb) (L2.My.q_k_Piece_is_empty hb) (L2.My.q_a_rows_of hb) (L2.My.fn_l (K := K) (f := L2.My.A_f_rows_of K) (n := "rows_of") (q := "rows_of") (st := L2.My.s_rows_of) (L2.My.nthF hf 52)) (L2.My.q_d_rows_of hb) (L2.My.q_k_rows_of hb) (L2.My.q_a_Piece_has hb) (L2.My.q_i_Piece_has hb) (L2.My.fn_l (K := K) (f := L2.My.A_f_Piece_has K) (n := "has") (q := "Piece.has") (st := L2.My.s_Piece_has) (L2.My.nthF hf 53)) (L2.My.q_d_Piece_has hb) (L2.My.q_k_Piece_has hb) (L2.My.q_a__law_dice hb) (L2.My.fn_l (K := K) (f := L2.My.A_f__law_dice K) (n := "_law_dice") (q := "_law_dice") (st := L2.My.s__law_dice) (L2.My.nthF hf 54)) (L2.My.q_d__law_dice hb) (L2.My.q_k__law_dice hb) (L2.My.q_a__law_draw hb) (L2.My.fn_l (K := K) (f := L2.My.A_f__law_draw K) (n := "_law_draw") (q := "_law_draw") (st := L2.My.s__law_draw) (L2.My.nthF hf 55)) (L2.My.q_d__law_draw hb) (L2.My.q_k__law_draw hb) (L2.My.q_a__law_wide hb) (L2.My.fn_l (K := K) (f := L2.My.A_f__law_wide K) (n := "_law_wide") (q := "_law_wide") (st := L2.My.s__law_wide) (L2.My.nthF hf 56)) (L2.My.q_d__law_wide hb) (L2.My.q_k__law_wide hb) (L2.My.q_a_check_floor hb) (L2.My.fn_l (K := K) (f := L2.My.A_f_check_floor K) (n := "check_floor") (q := "check_floor") (st := L2.My.s_check_floor) (L2.My.nthF hf 57)) (L2.My.q_d_check_floor hb) (L2.My.q_k_check_floor hb) (L2.My.q_a_check_many hb) (L2.My.fn_l (K := K) (f := L2.My.A_f_check_many K) (n := "check_many") (q := "check_many") (st := L2.My.s_check_many) (L2.My.nthF hf 58)) (L2.My.q_d_check_many hb) (L2.My.q_k_check_many hb) (L2.My.q_a_factor hb) (L2.My.fn_l (K := K) (f := L2.My.A_f_factor K) (n := "factor") (q := "factor") (st := L2.My.s_factor) (L2.My.nthF hf 59)) (L2.My.q_d_factor hb) (L2.My.q_k_factor hb) (L2.My.q_a_scaled hb) (L2.My.fn_l (K := K) (f := L2.My.A_f_scaled K) (n := "scaled") (q := "scaled") (st := L2.My.s_scaled) (L2.My.nthF hf 60)) (L2.My.q_d_scaled hb) (L2.My.q_k_scaled hb) (L2.My.q_a_led hb) (L2.My.fn_l (K := K) (f := L2.My.A_f_led K) (n := "led") (q := "led") (st := L2.My.s_led) (L2.My.nthF hf 61)) (L2.My.q_d_led hb) (L2.My.q_k_led hb) (L2.My.q_a_greater_floor hb) (L2.My.fn_l (K := K) (f := L2.My.A_f_greater_floor K) (n := "greater_floor") (q := "greater_floor") (st := L2.My.s_greater_floor) (L2.My.nthF hf 62)) (L2.My.q_d_greater_floor hb) (L2.My.q_k_greater_floor hb) (L2.My.q_a_lesser_floor hb) (L2.My.fn_l (K := K) (f := L2.My.A_f_lesser_floor K) (n := "lesser_floor") (q := "lesser_floor") (st := L2.My.s_lesser_floor) (L2.My.nthF hf 63)) (L2.My.q_d_lesser_floor hb) (L2.My.q_k_lesser_floor hb) (L2.My.q_a_led_up hb) (L2.My.fn_l (K := K) (f := L2.My.A_f_led_up K) (n := "led_up") (q := "led_up") (st := L2.My.s_led_up) (L2.My.nthF hf 64)) (L2.My.q_d_led_up hb) (L2.My.q_k_led_up hb) (L2.My.q_a__law_is_half hb) (L2.My.fn_l (K := K) (f := L2.My.A_f__law_is_half K) (n := "_law_is_half") (q := "_law_is_half") (st := L2.My.s__law_is_half) (L2.My.nthF hf 65)) (L2.My.q_d__law_is_half hb) (L2.My.q_k__law_is_half hb) (L2.My.q_a__law_is_let hb) (L2.My.fn_l (K := K) (f := L2.My.A_f__law_is_let K) (n := "_law_is_let") (q := "_law_is_let") (st := L2.My.s__law_is_let) (L2.My.nthF hf 66)) (L2.My.q_d__law_is_let hb) (L2.My.q_k__law_is_let hb) (L2.My.q_a__law_let hb) (L2.My.fn_l (K := K) (f := L2.My.A_f__law_let K) (n := "_law_let") (q := "_law_let") (st := L2.My.s__law_let) (L2.My.nthF hf 67)) (L2.My.q_d__law_let hb) (L2.My.q_k__law_let hb) (L2.My.q_a__law_shift hb) (L2.My.fn_l (K := K) (f := L2.My.A_f__law_shift K) (n := "_law_shift") (q := "_law_shift") (st := L2.My.s__law_shift) (L2.My.nthF hf 68)) (L2.My.q_d__law_shift hb) (L2.My.q_k__law_shift hb) (L2.My.q_a__law_led hb) (L2.My.fn_l (K := K) (f := L2.My.A_f__law_led K) (n := "_law_led") (q := "_law_led") (st := L2.My.s__law_led) (L2.My.nthF hf 69)) (L2.My.q_d__law_led hb) (L2.My.q_k__law_led hb) (L2.My.q_a__law_number hb) (L2.My.fn_l (K := K) (f := L2.My.A_f__law_number K) (n := "_law_number") (q := "_law_number") (st := L2.My.s__law_number) (L2.My.nthF hf 70)) (L2.My.q_d__law_number hb) (L2.My.q_k__law_number hb) (L2.My.q_a__law_point hb) (L2.My.fn_l (K := K) (f := L2.My.A_f__law_point K) (n := "_law_point") (q := "_law_point") (st := L2.My.s__law_point) (L2.My.nthF hf 71)) (L2.My.q_d__law_point hb) (L2.My.q_k__law_point hb) (L2.My.q_a__law_is_integer hb) (L2.My.fn_l (K := K) (f := L2.My.A_f__law_is_integer K) (n := "_law_is_integer") (q := "_law_is_integer") (st := L2.My.s__law_is_integer) (L2.My.nthF hf 72)) (L2.My.q_d__law_is_integer hb) (L2.My.q_k__law_is_integer hb) (L2.My.q_a__law_is_root hb) (L2.My.fn_l (K := K) (f := L2.My.A_f__law_is_root K) (n := "_law_is_root") (q := "_law_is_root") (st := L2.My.s__law_is_root) (L2.My.nthF hf 73)) (L2.My.q_d__law_is_root hb) (L2.My.q_k__law_is_root hb) (L2.My.q_a__law_is_floor hb) (L2.My.fn_l (K := K) (f := L2.My.A_f__law_is_floor K) (n := "_law_is_floor") (q := "_law_is_floor") (st := L2.My.s__law_is_floor) (L2.My.nthF hf 74)) (L2.My.q_d__law_is_floor hb) (L2.My.q_k__law_is_floor hb) (L2.My.q_a_Piece_eq hb) (L2.My.q_i_Piece_eq hb) (L2.My.fn_l (K := K) (f := L2.My.A_f_Piece_eq K) (n := "__eq__") (q := "Piece.__eq__") (st := L2.My.s_Piece_eq) (L2.My.nthF hf 75)) (L2.My.q_d_Piece_eq hb) (L2.My.q_k_Piece_eq hb) (L2.My.q_a__law_no_floor hb) (L2.My.fn_l (K := K) (f := L2.My.A_f__law_no_floor K) (n := "_law_no_floor") (q := "_law_no_floor") (st := L2.My.s__law_no_floor) (L2.My.nthF hf 76)) (L2.My.q_d__law_no_floor hb) (L2.My.q_k__law_no_floor hb) (L2.My.q_a__law_no_size hb) (L2.My.fn_l (K := K) (f := L2.My.A_f__law_no_size K) (n := "_law_no_size") (q := "_law_no_size") (st := L2.My.s__law_no_size) (L2.My.nthF hf 77)) (L2.My.q_d__law_no_size hb) (L2.My.q_k__law_no_size hb) (L2.My.q_a__law_told hb) (L2.My.fn_l (K := K) (f := L2.My.A_f__law_told K) (n := "_law_told") (q := "_law_told") (st := L2.My.s__law_told) (L2.My.nthF hf 78)) (L2.My.q_d__law_told hb) (L2.My.q_k__law_told hb) (L2.My.q_a__law_both_refused hb) (L2.My.fn_l (K := K) (f := L2.My.A_f__law_both_refused K) (n := "_law_both_refused") (q := "_law_both_refused") (st := L2.My.s__law_both_refused) (L2.My.nthF hf 79)) (L2.My.q_d__law_both_refused hb) (L2.My.q_k__law_both_refused hb) (L2.My.q_a__law_refusals hb) (L2.My.fn_l (K := K) (f := L2.My.A_f__law_refusals K) (n := "_law_refusals") (q := "_law_refusals") (st := L2.My.s__law_refusals) (L2.My.nthF hf 80)) (L2.My.q_d__law_refusals hb) (L2.My.q_k__law_refusals hb) (L2.My.q_a_law hb) (L2.My.fn_l (K := K) (f := L2.My.A_f_law K) (n := "law") (q := "law") (st := L2.My.s_law) (L2.My.nthF hf 81)) (L2.My.q_d_law hb) (L2.My.q_k_law hb)
    exact ⟨K, fd, L2.My.spTop K, KX, h1, fun H a ns _ _ hS => ⟨a, ns, rfl, hS, fun _ => rfl⟩, h2⟩

