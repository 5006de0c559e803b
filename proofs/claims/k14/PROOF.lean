import PyProof.Rows.All
import Wide.All
import OpenK.AllK
import Wide.FinOn
import HandS.ForMost
import HandS.ForExc
import HandS.SlotsOwn
import KE.KMathG
import KE.KOpsOwn
import HandS.ExcInit
import HandS.ExcField
import HandS.ExcIs
import HandS.IsInst
import HandS.OwnEq
import HandS.Gcd
import HandS.Wide
import HandS.Codes
import HandS.Style
import HandS.DictComp
import HandS.Zip
import HandS.TupAny
import HandS.TryMany
import KE.KMathGC
import HandS.Deep
import KE.SortData
import KE.KDictDisplayH
import HandS.Strs
import PyProof.NeKinds
import KE.OsSortAny
import HandS.Head0
import HandS.Head1
import HandS.Head2
import HandS.Head3
import HandS.HeadEnd
import HandS.HeadHook1
import HandS.HeadHook2
import PySem.Challenge.RW_threetiles_k14_whole_walks_across_tiles
set_option Elab.async false
set_option linter.all false
set_option maxRecDepth 100000
set_option maxHeartbeats 4000000

/-! The head by one kernel run: what is asked of the heap that the top leaves is a list of Booleans and of the defs' texts. -/
namespace L2.My
open PySem PySem.Spec PyProof.Rows

def adr : Option (Option Value) → Addr
  | some (some (.ref a)) => a
  | _ => 0
def isR : Option (Option Value) → Bool
  | some (some (.ref _)) => true
  | _ => false
theorem isR_ok {x : Option (Option Value)} (h : isR x = true) : x = some (some (.ref (adr x))) := by
  unfold isR at h
  split at h
  · rfl
  · cases h

abbrev FnT : Type := Option (Str × Str × Arguments × FuncBody × Scope × Addr × List (Str × Addr) × Value × Addr)
def objAt (K : PySem.W.Frag) (f : Addr) : Obj := (K.lookup f).getD default
def fdOf : Obj → Option FuncData
  | ⟨_, _, .func fd, _⟩ => some fd
  | _ => none
def fdAt (K : PySem.W.Frag) (f : Addr) : Option FuncData := (K.lookup f).bind fdOf
def fnT (K : PySem.W.Frag) (f : Addr) : FnT :=
  (fdAt K f).map fun fd => (fd.name, fd.qualname, fd.params, fd.body, fd.scope, fd.globals, fd.closure, fd.defaults, fd.builtins)
def fnE (n q : Str) (st : Stmt) : FnT :=
  some (n, q, defArgs st, .stmts (defBody st), defScope st, mainGlobals, [], .none, builtinsNs)
abbrev fdK (K : PySem.W.Frag) (f : Addr) : FuncData := (fdAt K f).getD ⟨"", "", defArgs (.Pass ⟨0, 0, 0, 0⟩), .stmts [], defScope (.Pass ⟨0, 0, 0, 0⟩), 0, [], .none, .none, .none, .none, none, .none, .none, 0⟩
theorem fn_l {K : PySem.W.Frag} {f : Addr} {n q : Str} {st : Stmt} (e : fnT K f = fnE n q st) :
    K.lookup f = some ⟨(objAt K f).cls, (objAt K f).dict, .func (PySem.W.fnOf n q (defArgs st) (defBody st) (defScope st) .none (fdK K f).kwdefaults (fdK K f).doc (fdK K f).pyModule (fdK K f).annotations (fdK K f).code (fdK K f).closureTuple), (objAt K f).slots⟩ := by
  unfold fnT fnE at e
  unfold fdK fdAt objAt at *
  cases h : K.lookup f with
  | none => rw [h] at e; cases e
  | some o =>
    rw [h] at e
    obtain ⟨oc, od, dt, sl⟩ := o
    cases dt with
    | func fd =>
      obtain ⟨x1, x2, x3, x4, x5, x6, x7, x8, x9, x10, x11, x12, x13, x14, x15⟩ := fd
      cases e
      rfl
    | _ => cases e

structure CV where
  nm : Str
  q : Str
  N : Addr
  bs : List Value
  sn : List Str
  sub : List Value
  ab : Bool
  col : Option Bool
  dd : Option Addr
  m0 : Option Value
  m1 : Option Value
  m2 : Option Value
  m3 : Option Value
  m5 : Option Value

def excB (K : PySem.W.Frag) (C B : Addr) (ms : List Value) (nw : String) : Bool :=
  match K.lookup C with
  | some ⟨.type t, _, .cls cd, sl⟩ =>
    match sl.toList with
    | [_, _, _, _, some (.builtin i), _] =>
      decide (t = "type") && decide (cd.mro = .ref C :: .ref B :: ms) && cd.hasDict && !cd.hasDel && decide (i = nw)
    | _ => false
  | _ => false
theorem excB_ok {K : PySem.W.Frag} {C B : Addr} {ms : List Value} {nw : String} (h : excB K C B ms nw = true) :
    ∃ c : CV, K.lookup C = some (excClassObj c.nm c.q C c.N c.bs (.ref B :: ms) true c.sn c.sub c.ab c.col c.dd c.m0 c.m1 c.m2 c.m3 c.m5 nw) := by
  unfold excB at h
  split at h
  · rename_i t dd cd sl hl
    split at h
    · rename_i k0 k1 k2 k3 i k5 hs
      simp only [Bool.and_eq_true, decide_eq_true_eq, Bool.not_eq_true'] at h
      obtain ⟨⟨⟨⟨ht, hm⟩, hd⟩, hx⟩, hi⟩ := h
      obtain ⟨x1, x2, x3, x4, x5, x6, x7, x8, x9, x10, x11⟩ := cd
      obtain ⟨sl⟩ := sl
      simp only at hm hd hx hs
      subst hm hd hx ht hi hs
      exact ⟨⟨x1, x5, x4, x2, x7, x8, x9, x10, dd, k0, k1, k2, k3, k5⟩, hl⟩
    · cases h
  · cases h

/-- what a def, a class or a namespace leads to: its code, its namespace, its values -/
def leads (g : Addr → Option Obj) (a : Addr) : List Addr :=
  match g a with
  | some ⟨_, _, .func fd, _⟩ => He.refV fd.code
  | some ⟨_, _, .cls cd, _⟩ => [cd.ns]
  | some ⟨_, _, .dict es _, _⟩ => es.toList.flatMap fun e => He.refV e.val
  | _ => []
def frOf (g : Addr → Option Obj) (ns : List Str) : PySem.W.Frag :=
  let A := ns.map (He.ga (He.frG g [mainGlobals]))
  let B := A.flatMap (leads g)
  let C := B.flatMap (leads g)
  He.frG g (mainGlobals :: A ++ (B ++ (C ++ C.flatMap (leads g))))

def hookF (ns : List Str) (bs : PySem.W.Frag → List Bool) (fs : PySem.W.Frag → List FnT) (ws : List FnT) : PySem.W.Hook where
  α := Bool × List FnT
  obs s := ((bs (frOf s.heap.get? ns)).all id, fs (frOf s.heap.get? ns))
  val _ := (true, ws)
  says _ h := ∃ K : PySem.W.Frag, K.In h ∧ (bs K).all id = true ∧ fs K = ws
  of _ _ e := ⟨_, He.frG_in, (Prod.mk.inj e).1, (Prod.mk.inj e).2⟩
  keeps _ _ _ := fun ⟨K, a, b⟩ f => ⟨K, fun x o e => f x o (a x o e), b⟩

def obF (ns : List Str) (bs : PySem.W.Frag → List Bool) (fs : PySem.W.Frag → List FnT) (s : PySem.W.SharedT) : Bool × List FnT :=
  ((bs (frOf (HandSHeadRun.getT s) ns)).all id, fs (frOf (HandSHeadRun.getT s) ns))
theorem obF_eq {ns : List Str} {bs : PySem.W.Frag → List Bool} {fs : PySem.W.Frag → List FnT} {ws : List FnT} (s : PySem.W.SharedT) :
    obF ns bs fs s = (hookF ns bs fs ws).obs s.abs := by
  have e : HandSHeadRun.getT s = s.abs.heap.get? := funext (HandSHeadRun.getT_eq s)
  unfold obF hookF
  simp only [e]

noncomputable abbrev wholeO (r : PySem.W.OpenRow) (M : Nat) (w : World) : Option (Shared × PySem.W.SharedT) :=
  HandSHeadRun.wholeF (fun p => HandSHeadRun.stepQ (HandSHeadRun.denQ HandSHeadRun.tabQ) p w) HandSHeadRun.fenceQ M r.prog
def RunB (r : PySem.W.OpenRow) (M : Nat) (w : World) (ns : List Str) (b : PySem.W.Frag → List Bool) : Prop :=
  Option.map (fun x => (b (frOf (HandSHeadRun.getT x.2) ns)).all id) (wholeO r M w) = some true
def RunF (r : PySem.W.OpenRow) (M : Nat) (w : World) (ns : List Str) (f : PySem.W.Frag → List FnT) (ws : List FnT) : Prop :=
  Option.map (fun x => f (frOf (HandSHeadRun.getT x.2) ns)) (wholeO r M w) = some ws
theorem run_b {r : PySem.W.OpenRow} {q : Program} {M : Nat} {loose : List Str} {w : World} {ns : List Str} {b b' : PySem.W.Frag → List Bool} {f : PySem.W.Frag → List FnT} {ws : List FnT}
    (h : HandSHeadRun.RunEqI r q (hookF ns b f ws) (obF ns b f) M loose w) (h' : RunB r M w ns b') :
    HandSHeadRun.RunEqI r q (hookF ns (fun K => b' K ++ b K) f ws) (obF ns (fun K => b' K ++ b K) f) M loose w := by
  unfold HandSHeadRun.RunEqI at h ⊢
  unfold RunB wholeO at h'
  generalize HandSHeadRun.wholeF (fun p => HandSHeadRun.stepQ (HandSHeadRun.denQ HandSHeadRun.tabQ) p w) HandSHeadRun.fenceQ M r.prog = o at h h' ⊢
  cases o with
  | none => cases h
  | some x =>
    have h := Prod.mk.inj (Option.some.inj h)
    have h2 := Prod.mk.inj h.2
    have h3 := Prod.mk.inj h2.2
    have h' := Option.some.inj h'
    show some _ = some _
    refine congrArg some (Prod.ext h.1 (Prod.ext h2.1 (Prod.ext ?_ h3.2)))
    show (b' _ ++ b _).all id = true
    have h4 : (b' (frOf (HandSHeadRun.getT x.2) ns)).all id = true := h'
    rw [List.all_append, h4, Bool.true_and]
    exact h3.1
theorem run_f {r : PySem.W.OpenRow} {q : Program} {M : Nat} {loose : List Str} {w : World} {ns : List Str} {b : PySem.W.Frag → List Bool} {f f' : PySem.W.Frag → List FnT} {ws ws' : List FnT}
    (h : HandSHeadRun.RunEqI r q (hookF ns b f ws) (obF ns b f) M loose w) (h' : RunF r M w ns f' ws') :
    HandSHeadRun.RunEqI r q (hookF ns b (fun K => f' K ++ f K) (ws' ++ ws)) (obF ns b (fun K => f' K ++ f K)) M loose w := by
  unfold HandSHeadRun.RunEqI at h ⊢
  unfold RunF wholeO at h'
  generalize HandSHeadRun.wholeF (fun p => HandSHeadRun.stepQ (HandSHeadRun.denQ HandSHeadRun.tabQ) p w) HandSHeadRun.fenceQ M r.prog = o at h h' ⊢
  cases o with
  | none => cases h
  | some x =>
    have h := Prod.mk.inj (Option.some.inj h)
    have h2 := Prod.mk.inj h.2
    have h3 := Prod.mk.inj h2.2
    have h' := Option.some.inj h'
    show some _ = some _
    refine congrArg some (Prod.ext h.1 (Prod.ext h2.1 (Prod.ext h3.1 ?_)))
    show f' _ ++ f _ = ws' ++ ws
    exact congr (congrArg _ h') h3.2

theorem nthB : ∀ {l : List Bool}, l.all id = true → ∀ i : Nat, l.getD i true = true
  | [], _, _ => rfl
  | b :: l, h, 0 => by
    simp only [List.all_cons, id, Bool.and_eq_true] at h
    exact h.1
  | b :: l, h, i + 1 => by
    simp only [List.all_cons, id, Bool.and_eq_true] at h
    exact nthB (l := l) h.2 i
theorem nthF {l m : List FnT} (h : l = m) (i : Nat) : l.getD i none = m.getD i none := by rw [h]
theorem dok {p : Prop} [Decidable p] (h : decide p = true) : p := of_decide_eq_true h

theorem walk_ofEW {l : PySem.W.OpenLaw} {n k : Nat} {q : Program} {loose : List Str} {XP : (Str → Option Value) → Heap → Prop} {YP : World → Heap → Prop} {d : DefRec} {CX : World → L2.CXT} {x : Str}
    (hn : l.most = some n) (hz : n ≤ sizeLine) (hd : d.params.defaults = []) (hr : L2.Room k callerA)
    (F : ∀ (w : World) (mg : Str → Option Value) (fa : Addr) (h : Heap), YP w h → h.Ns mainGlobals mg → mg d.name = some (.ref fa) →
      ∃ K fd sp, PySem.W.Frag.In K h ∧ (∀ (s : Shared) (u : Value), BindsTo s fd { pos := [u] } [(x, u)]) ∧
        (∀ (H : L2.Hp) (a : Addr) (ns : List Int), ns.length ≤ n → L2.Only H → L2.SqL K H a (ns.map L2.V.int) → sp [L2.V.ref a] H (fun v x => v = L2.V.bl true) fun x x_1 x_2 => False) ∧
        ∀ base : Heap, PySem.W.Frag.In K base → base.Ns mainGlobals mg → L2.FnOk l.prog w K mg base (CX w) k fa fd [x] sp)
    (N : ∀ (w : World) (H : L2.Hp) (s : Shared) (e : Value) (s' : Shared), CX w [] H s (fun x x_1 x_2 => False) e s' → False) :
    PySem.W.WalkO q loose XP YP l.row.toRowW d [] (fun f vs => PySem.call f vs) := by
  intro w s0 s1 mg mb Gr Y
  refine L2.walk_ofE (l := l) (n := n) (k := k) (q := q) (loose := loose) (XP := XP) (YP := fun w' h => w' = w ∧ YP w h) (d := d) (CX := CX w) (x := x) hn hz hd hr ?_ (N w) w s0 s1 mg mb Gr ⟨rfl, Y⟩
  rintro w' mg' fa h ⟨rfl, Y'⟩ G hm
  exact F w' mg' fa h Y' G hm
end L2.My

namespace L2.My
open PySem PySem.Spec PyProof.Rows
def Z_top (i : Nat) : Stmt := PySem.Challenge.pw_threetiles_k14_whole_walks_across_tiles.main.body.getD i (.Pass ⟨0, 0, 0, 0⟩)

abbrev Z_s_is_integral : Stmt := Z_top 13
abbrev Z_s_BadPoint_init : Stmt := inClass (Z_top 5) 0
abbrev Z_s_BadCorner_init : Stmt := inClass (Z_top 6) 0
abbrev Z_s_Barred_init : Stmt := inClass (Z_top 7) 0
abbrev Z_s_NoCorner_init : Stmt := inClass (Z_top 8) 0
abbrev Z_s_BadTile_init : Stmt := inClass (Z_top 9) 0
abbrev Z_s_NoTile_init : Stmt := inClass (Z_top 10) 0
abbrev Z_s_BadSide_init : Stmt := inClass (Z_top 11) 0
abbrev Z_s_BadNumber_init : Stmt := inClass (Z_top 4) 0
abbrev Z_s_Root_init : Stmt := inClass (Z_top 18) 0
abbrev Z_s_Root_eq : Stmt := inClass (Z_top 18) 1
abbrev Z_s_Root_neg : Stmt := inClass (Z_top 18) 8
abbrev Z_s_is_number : Stmt := Z_top 14
abbrev Z_s_as_root : Stmt := Z_top 15
abbrev Z_s_surd_sign : Stmt := Z_top 16
abbrev Z_s_Root_add : Stmt := inClass (Z_top 18) 2
abbrev Z_s_Root_sub : Stmt := inClass (Z_top 18) 4
abbrev Z_s_Root_mul : Stmt := inClass (Z_top 18) 6
abbrev Z_s_Root_radd : Stmt := inClass (Z_top 18) 3
abbrev Z_s_Root_rmul : Stmt := inClass (Z_top 18) 7
abbrev Z_s_Root_rsub : Stmt := inClass (Z_top 18) 5
abbrev Z_s_Root_less : Stmt := inClass (Z_top 18) 10
abbrev Z_s__law_start : Stmt := Z_top 43
abbrev Z_s__law_mixed : Stmt := Z_top 44
abbrev Z_s__law_draw : Stmt := Z_top 45
abbrev Z_s__law_between : Stmt := Z_top 46
abbrev Z_s__law_plus : Stmt := Z_top 47
abbrev Z_s__law_minus : Stmt := Z_top 48
abbrev Z_s__law_sign : Stmt := Z_top 49
abbrev Z_s_is_corner : Stmt := Z_top 23
abbrev Z_s_check_corner : Stmt := Z_top 24
abbrev Z_s_step : Stmt := Z_top 25
abbrev Z_s__law_star : Stmt := Z_top 50
abbrev Z_s__law_corner : Stmt := Z_top 56
abbrev Z_s__law_is_corner : Stmt := Z_top 67
abbrev Z_s_is_point : Stmt := Z_top 20
abbrev Z_s_as_roots : Stmt := Z_top 21
abbrev Z_s__law_given : Stmt := Z_top 58
abbrev Z_s_check_point : Stmt := Z_top 36
abbrev Z_s_is_half : Stmt := Z_top 37
abbrev Z_s_bars_evenly : Stmt := Z_top 38
abbrev Z_s_bars_oddly : Stmt := Z_top 39
abbrev Z_s_barred : Stmt := Z_top 40
abbrev Z_s_gauge_of : Stmt := Z_top 32
abbrev Z_s_beside : Stmt := Z_top 33
abbrev Z_s_in_window : Stmt := Z_top 34
abbrev Z_s_Floor_init : Stmt := inClass (Z_top 41) 0
abbrev Z_s_Floor_has_corner : Stmt := inClass (Z_top 41) 3
abbrev Z_s__law_lines : Stmt := Z_top 51
abbrev Z_s__law_inside : Stmt := Z_top 52
abbrev Z_s__law_is_odd_half : Stmt := Z_top 53
abbrev Z_s__law_barred : Stmt := Z_top 54
abbrev Z_s__law_spot : Stmt := Z_top 55
abbrev Z_s__law_shift : Stmt := Z_top 57
abbrev Z_s__law_has : Stmt := Z_top 59
abbrev Z_s_Floorways : Stmt := inClass (Z_top 41) 2
abbrev Z_s_Floor_sides : Stmt := inClass (Z_top 41) 4
abbrev Z_s__law_step : Stmt := Z_top 60
abbrev Z_s__law_sides : Stmt := Z_top 61
abbrev Z_s__law_floor : Stmt := Z_top 62
abbrev Z_s_is_tile : Stmt := Z_top 27
abbrev Z_s_check_tile : Stmt := Z_top 28
abbrev Z_s_tile_corners : Stmt := Z_top 29
abbrev Z_s_Floor_has_tile : Stmt := inClass (Z_top 41) 5
abbrev Z_s__law_ends : Stmt := Z_top 63
abbrev Z_s__law_has_tile : Stmt := Z_top 64
abbrev Z_s__law_tile_between : Stmt := Z_top 65
abbrev Z_s__law_tiles_at : Stmt := Z_top 66
abbrev Z_s_tile_between : Stmt := Z_top 30
abbrev Z_s_Floor_tiles_at : Stmt := inClass (Z_top 41) 6
abbrev Z_s_Floor_across : Stmt := inClass (Z_top 41) 7
abbrev Z_s__law_is_tile : Stmt := Z_top 68
abbrev Z_s__law_side_ends : Stmt := Z_top 69
abbrev Z_s__law_side_with : Stmt := Z_top 70
abbrev Z_s__law_common : Stmt := Z_top 71
abbrev Z_s__law_round : Stmt := Z_top 72
abbrev Z_s_law : Stmt := Z_top 73
def A_c_FloorError (K : PySem.W.Frag) : Addr := adr (PySem.W.nsIn K mainGlobals "FloorError")
def A_c_BadNumber (K : PySem.W.Frag) : Addr := adr (PySem.W.nsIn K mainGlobals "BadNumber")
def A_c_BadPoint (K : PySem.W.Frag) : Addr := adr (PySem.W.nsIn K mainGlobals "BadPoint")
def A_c_BadCorner (K : PySem.W.Frag) : Addr := adr (PySem.W.nsIn K mainGlobals "BadCorner")
def A_c_Barred (K : PySem.W.Frag) : Addr := adr (PySem.W.nsIn K mainGlobals "Barred")
def A_c_NoCorner (K : PySem.W.Frag) : Addr := adr (PySem.W.nsIn K mainGlobals "NoCorner")
def A_c_BadTile (K : PySem.W.Frag) : Addr := adr (PySem.W.nsIn K mainGlobals "BadTile")
def A_c_NoTile (K : PySem.W.Frag) : Addr := adr (PySem.W.nsIn K mainGlobals "NoTile")
def A_c_BadSide (K : PySem.W.Frag) : Addr := adr (PySem.W.nsIn K mainGlobals "BadSide")
def A_c_Root (K : PySem.W.Frag) : Addr := adr (PySem.W.nsIn K mainGlobals "Root")
def A_c_Floor (K : PySem.W.Frag) : Addr := adr (PySem.W.nsIn K mainGlobals "Floor")
def A_gAX (K : PySem.W.Frag) : Addr := adr (PySem.W.findIn K (.ref (A_c_Root K)) "__radd__")
def A_gSX (K : PySem.W.Frag) : Addr := adr (PySem.W.findIn K (.ref (A_c_Root K)) "__rsub__")
def A_gMX (K : PySem.W.Frag) : Addr := adr (PySem.W.findIn K (.ref (A_c_Root K)) "__rmul__")
def A_f_is_integral (K : PySem.W.Frag) : Addr := adr (PySem.W.nsIn K mainGlobals "is_integral")
def A_f_BadPoint_init (K : PySem.W.Frag) : Addr := adr (PySem.W.findIn K (.ref (A_c_BadPoint K)) "__init__")
def A_f_BadCorner_init (K : PySem.W.Frag) : Addr := adr (PySem.W.findIn K (.ref (A_c_BadCorner K)) "__init__")
def A_f_Barred_init (K : PySem.W.Frag) : Addr := adr (PySem.W.findIn K (.ref (A_c_Barred K)) "__init__")
def A_f_NoCorner_init (K : PySem.W.Frag) : Addr := adr (PySem.W.findIn K (.ref (A_c_NoCorner K)) "__init__")
def A_f_BadTile_init (K : PySem.W.Frag) : Addr := adr (PySem.W.findIn K (.ref (A_c_BadTile K)) "__init__")
def A_f_NoTile_init (K : PySem.W.Frag) : Addr := adr (PySem.W.findIn K (.ref (A_c_NoTile K)) "__init__")
def A_f_BadSide_init (K : PySem.W.Frag) : Addr := adr (PySem.W.findIn K (.ref (A_c_BadSide K)) "__init__")
def A_f_BadNumber_init (K : PySem.W.Frag) : Addr := adr (PySem.W.findIn K (.ref (A_c_BadNumber K)) "__init__")
def A_f_Root_init (K : PySem.W.Frag) : Addr := adr (PySem.W.findIn K (.ref (A_c_Root K)) "__init__")
def A_f_Root_eq (K : PySem.W.Frag) : Addr := adr (PySem.W.findIn K (.ref (A_c_Root K)) "__eq__")
def A_f_Root_neg (K : PySem.W.Frag) : Addr := adr (PySem.W.findIn K (.ref (A_c_Root K)) "__neg__")
def A_f_is_number (K : PySem.W.Frag) : Addr := adr (PySem.W.nsIn K mainGlobals "is_number")
def A_f_as_root (K : PySem.W.Frag) : Addr := adr (PySem.W.nsIn K mainGlobals "as_root")
def A_f_surd_sign (K : PySem.W.Frag) : Addr := adr (PySem.W.nsIn K mainGlobals "surd_sign")
def A_f_Root_add (K : PySem.W.Frag) : Addr := adr (PySem.W.findIn K (.ref (A_c_Root K)) "__add__")
def A_f_Root_sub (K : PySem.W.Frag) : Addr := adr (PySem.W.findIn K (.ref (A_c_Root K)) "__sub__")
def A_f_Root_mul (K : PySem.W.Frag) : Addr := adr (PySem.W.findIn K (.ref (A_c_Root K)) "__mul__")
def A_f_Root_radd (K : PySem.W.Frag) : Addr := adr (PySem.W.findIn K (.ref (A_c_Root K)) "__radd__")
def A_f_Root_rmul (K : PySem.W.Frag) : Addr := adr (PySem.W.findIn K (.ref (A_c_Root K)) "__rmul__")
def A_f_Root_rsub (K : PySem.W.Frag) : Addr := adr (PySem.W.findIn K (.ref (A_c_Root K)) "__rsub__")
def A_f_Root_less (K : PySem.W.Frag) : Addr := adr (PySem.W.findIn K (.ref (A_c_Root K)) "less")
def A_f__law_start (K : PySem.W.Frag) : Addr := adr (PySem.W.nsIn K mainGlobals "_law_start")
def A_f__law_mixed (K : PySem.W.Frag) : Addr := adr (PySem.W.nsIn K mainGlobals "_law_mixed")
def A_f__law_draw (K : PySem.W.Frag) : Addr := adr (PySem.W.nsIn K mainGlobals "_law_draw")
def A_f__law_between (K : PySem.W.Frag) : Addr := adr (PySem.W.nsIn K mainGlobals "_law_between")
def A_f__law_plus (K : PySem.W.Frag) : Addr := adr (PySem.W.nsIn K mainGlobals "_law_plus")
def A_f__law_minus (K : PySem.W.Frag) : Addr := adr (PySem.W.nsIn K mainGlobals "_law_minus")
def A_f__law_sign (K : PySem.W.Frag) : Addr := adr (PySem.W.nsIn K mainGlobals "_law_sign")
def A_f_is_corner (K : PySem.W.Frag) : Addr := adr (PySem.W.nsIn K mainGlobals "is_corner")
def A_f_check_corner (K : PySem.W.Frag) : Addr := adr (PySem.W.nsIn K mainGlobals "check_corner")
def A_f_step (K : PySem.W.Frag) : Addr := adr (PySem.W.nsIn K mainGlobals "step")
def A_f__law_star (K : PySem.W.Frag) : Addr := adr (PySem.W.nsIn K mainGlobals "_law_star")
def A_f__law_corner (K : PySem.W.Frag) : Addr := adr (PySem.W.nsIn K mainGlobals "_law_corner")
def A_f__law_is_corner (K : PySem.W.Frag) : Addr := adr (PySem.W.nsIn K mainGlobals "_law_is_corner")
def A_f_is_point (K : PySem.W.Frag) : Addr := adr (PySem.W.nsIn K mainGlobals "is_point")
def A_f_as_roots (K : PySem.W.Frag) : Addr := adr (PySem.W.nsIn K mainGlobals "as_roots")
def A_f__law_given (K : PySem.W.Frag) : Addr := adr (PySem.W.nsIn K mainGlobals "_law_given")
def A_f_check_point (K : PySem.W.Frag) : Addr := adr (PySem.W.nsIn K mainGlobals "check_point")
def A_f_is_half (K : PySem.W.Frag) : Addr := adr (PySem.W.nsIn K mainGlobals "is_half")
def A_f_bars_evenly (K : PySem.W.Frag) : Addr := adr (PySem.W.nsIn K mainGlobals "bars_evenly")
def A_f_bars_oddly (K : PySem.W.Frag) : Addr := adr (PySem.W.nsIn K mainGlobals "bars_oddly")
def A_f_barred (K : PySem.W.Frag) : Addr := adr (PySem.W.nsIn K mainGlobals "barred")
def A_f_gauge_of (K : PySem.W.Frag) : Addr := adr (PySem.W.nsIn K mainGlobals "gauge_of")
def A_f_beside (K : PySem.W.Frag) : Addr := adr (PySem.W.nsIn K mainGlobals "beside")
def A_f_in_window (K : PySem.W.Frag) : Addr := adr (PySem.W.nsIn K mainGlobals "in_window")
def A_f_Floor_init (K : PySem.W.Frag) : Addr := adr (PySem.W.findIn K (.ref (A_c_Floor K)) "__init__")
def A_f_Floor_has_corner (K : PySem.W.Frag) : Addr := adr (PySem.W.findIn K (.ref (A_c_Floor K)) "has_corner")
def A_f__law_lines (K : PySem.W.Frag) : Addr := adr (PySem.W.nsIn K mainGlobals "_law_lines")
def A_f__law_inside (K : PySem.W.Frag) : Addr := adr (PySem.W.nsIn K mainGlobals "_law_inside")
def A_f__law_is_odd_half (K : PySem.W.Frag) : Addr := adr (PySem.W.nsIn K mainGlobals "_law_is_odd_half")
def A_f__law_barred (K : PySem.W.Frag) : Addr := adr (PySem.W.nsIn K mainGlobals "_law_barred")
def A_f__law_spot (K : PySem.W.Frag) : Addr := adr (PySem.W.nsIn K mainGlobals "_law_spot")
def A_f__law_shift (K : PySem.W.Frag) : Addr := adr (PySem.W.nsIn K mainGlobals "_law_shift")
def A_f__law_has (K : PySem.W.Frag) : Addr := adr (PySem.W.nsIn K mainGlobals "_law_has")
def A_f_Floorways (K : PySem.W.Frag) : Addr := adr (PySem.W.findIn K (.ref (A_c_Floor K)) "_ways")
def A_f_Floor_sides (K : PySem.W.Frag) : Addr := adr (PySem.W.findIn K (.ref (A_c_Floor K)) "sides")
def A_f__law_step (K : PySem.W.Frag) : Addr := adr (PySem.W.nsIn K mainGlobals "_law_step")
def A_f__law_sides (K : PySem.W.Frag) : Addr := adr (PySem.W.nsIn K mainGlobals "_law_sides")
def A_f__law_floor (K : PySem.W.Frag) : Addr := adr (PySem.W.nsIn K mainGlobals "_law_floor")
def A_f_is_tile (K : PySem.W.Frag) : Addr := adr (PySem.W.nsIn K mainGlobals "is_tile")
def A_f_check_tile (K : PySem.W.Frag) : Addr := adr (PySem.W.nsIn K mainGlobals "check_tile")
def A_f_tile_corners (K : PySem.W.Frag) : Addr := adr (PySem.W.nsIn K mainGlobals "tile_corners")
def A_f_Floor_has_tile (K : PySem.W.Frag) : Addr := adr (PySem.W.findIn K (.ref (A_c_Floor K)) "has_tile")
def A_f__law_ends (K : PySem.W.Frag) : Addr := adr (PySem.W.nsIn K mainGlobals "_law_ends")
def A_f__law_has_tile (K : PySem.W.Frag) : Addr := adr (PySem.W.nsIn K mainGlobals "_law_has_tile")
def A_f__law_tile_between (K : PySem.W.Frag) : Addr := adr (PySem.W.nsIn K mainGlobals "_law_tile_between")
def A_f__law_tiles_at (K : PySem.W.Frag) : Addr := adr (PySem.W.nsIn K mainGlobals "_law_tiles_at")
def A_f_tile_between (K : PySem.W.Frag) : Addr := adr (PySem.W.nsIn K mainGlobals "tile_between")
def A_f_Floor_tiles_at (K : PySem.W.Frag) : Addr := adr (PySem.W.findIn K (.ref (A_c_Floor K)) "tiles_at")
def A_f_Floor_across (K : PySem.W.Frag) : Addr := adr (PySem.W.findIn K (.ref (A_c_Floor K)) "across")
def A_f__law_is_tile (K : PySem.W.Frag) : Addr := adr (PySem.W.nsIn K mainGlobals "_law_is_tile")
def A_f__law_side_ends (K : PySem.W.Frag) : Addr := adr (PySem.W.nsIn K mainGlobals "_law_side_ends")
def A_f__law_side_with (K : PySem.W.Frag) : Addr := adr (PySem.W.nsIn K mainGlobals "_law_side_with")
def A_f__law_common (K : PySem.W.Frag) : Addr := adr (PySem.W.nsIn K mainGlobals "_law_common")
def A_f__law_round (K : PySem.W.Frag) : Addr := adr (PySem.W.nsIn K mainGlobals "_law_round")
def A_f_law (K : PySem.W.Frag) : Addr := adr (PySem.W.nsIn K mainGlobals "law")
def nsK : List Str := (["FloorError", "BadNumber", "BadPoint", "BadCorner", "Barred", "NoCorner", "BadTile", "NoTile", "BadSide", "Root", "Floor", "is_integral", "is_number", "as_root", "surd_sign", "_law_start", "_law_mixed", "_law_draw", "_law_between", "_law_plus", "_law_minus", "_law_sign", "is_corner", "check_corner", "step", "_law_star", "_law_corner", "_law_is_corner", "is_point", "as_roots"] : List Str) ++ (["_law_given", "check_point", "is_half", "bars_evenly", "bars_oddly", "barred", "gauge_of", "beside", "in_window", "_law_lines", "_law_inside", "_law_is_odd_half", "_law_barred", "_law_spot", "_law_shift", "_law_has", "_law_step", "_law_sides", "_law_floor", "is_tile", "check_tile", "tile_corners", "_law_ends", "_law_has_tile", "_law_tile_between", "_law_tiles_at", "tile_between", "_law_is_tile", "_law_side_ends", "_law_side_with"] : List Str) ++ (["_law_common", "_law_round", "law"] : List Str)
def namesK : List Str := (["gcd", "isqrt", "lcm", "_wall", "__name__", "FloorError", "BadNumber", "BadPoint", "BadCorner", "Barred", "NoCorner", "BadTile", "NoTile", "BadSide", "is_integral", "is_number", "as_root", "surd_sign", "surd_whole", "Root", "is_point", "as_roots", "is_corner", "check_corner", "step", "is_tile", "check_tile", "tile_corners", "tile_between", "gauge_of"] : List Str) ++ (["beside", "in_window", "check_point", "is_half", "bars_evenly", "bars_oddly", "barred", "Floor", "_law_start", "_law_mixed", "_law_draw", "_law_between", "_law_plus", "_law_minus", "_law_sign", "_law_star", "_law_lines", "_law_inside", "_law_is_odd_half", "_law_barred", "_law_spot", "_law_corner", "_law_shift", "_law_given", "_law_has", "_law_step", "_law_sides", "_law_floor", "_law_ends", "_law_has_tile"] : List Str) ++ (["_law_tile_between", "_law_tiles_at", "_law_is_corner", "_law_is_tile", "_law_side_ends", "_law_side_with", "_law_common", "_law_round"] : List Str)
def bs0 (K : PySem.W.Frag) : List Bool := [
  isR (PySem.W.nsIn K mainGlobals "FloorError"),
  isR (PySem.W.nsIn K mainGlobals "BadNumber"),
  isR (PySem.W.nsIn K mainGlobals "BadPoint"),
  isR (PySem.W.nsIn K mainGlobals "BadCorner"),
  isR (PySem.W.nsIn K mainGlobals "Barred"),
  isR (PySem.W.nsIn K mainGlobals "NoCorner"),
  isR (PySem.W.nsIn K mainGlobals "BadTile"),
  isR (PySem.W.nsIn K mainGlobals "NoTile"),
  isR (PySem.W.nsIn K mainGlobals "BadSide"),
  isR (PySem.W.nsIn K mainGlobals "Root"),
  isR (PySem.W.nsIn K mainGlobals "Floor"),
  decide (PySem.W.nsIn K mainGlobals "gcd" = some (some (.builtin "math.gcd"))),
  decide (PySem.W.nsIn K mainGlobals "lcm" = some (some (.builtin "math.lcm"))),
  decide (PySem.W.nsIn K mainGlobals "isinstance" = some none),
  decide (PySem.W.nsIn K mainGlobals "list" = some none),
  decide (PySem.W.nsIn K mainGlobals "int" = some none),
  decide (PySem.W.nsIn K mainGlobals "range" = some none),
  decide (PySem.W.nsIn K mainGlobals "len" = some none),
  decide (PySem.W.nsIn K mainGlobals "abs" = some none),
  decide (PySem.W.nsIn K mainGlobals "sorted" = some none),
  decide (PySem.W.nsIn K mainGlobals "all" = some none),
  decide (PySem.W.nsIn K mainGlobals "tuple" = some none),
  decide (PySem.W.nsIn K mainGlobals "bool" = some none),
  decide (PySem.W.nsIn K mainGlobals "enumerate" = some none),
  decide (PySem.W.nsIn K mainGlobals "zip" = some none),
  decide (PySem.W.plainGet K (A_c_Root K) Str.empty = true),
  decide (PySem.W.hasDictIn K (A_c_Root K) = true),
  decide (PySem.W.plainOver K (A_c_Root K) = true),
  decide (PySem.W.findIn K (.ref (A_c_Root K)) "__setattr__" = some (some (.builtin "object.__setattr__"))),
  decide (PySem.W.findIn K (.ref (A_c_Root K)) "__class__" = some (some (.builtin "object.__class__"))),
  decide (PySem.W.mroIn K (A_c_Root K) (.type "object") = some true),
  decide (PySem.W.isClsIn K (A_c_Root K) = true),
  decide (PySem.W.typeIn K (.ref (A_c_Root K)) = some (.type "type")),
  decide (PySem.W.mroIn K (A_c_Root K) (.type "int") = some false),
  decide (PySem.W.mroIn K (A_c_Root K) (.type "bool") = some false),
  decide (PySem.W.findIn K (.ref (A_c_Root K)) "top" = some none),
  decide (PySem.W.findIn K (.ref (A_c_Root K)) "root" = some none),
  decide (PySem.W.findIn K (.ref (A_c_Root K)) "bottom" = some none),
  decide (PySem.W.selfFirst K (A_c_Root K) = true),
  isR (PySem.W.findIn K (.ref (A_c_Root K)) "__radd__"),
  isR (PySem.W.findIn K (.ref (A_c_Root K)) "__rsub__"),
  isR (PySem.W.findIn K (.ref (A_c_Root K)) "__rmul__"),
  decide (PySem.W.plainGet K (A_c_Floor K) Str.empty = true),
  decide (PySem.W.hasDictIn K (A_c_Floor K) = true),
  decide (PySem.W.plainOver K (A_c_Floor K) = true),
  decide (PySem.W.findIn K (.ref (A_c_Floor K)) "__setattr__" = some (some (.builtin "object.__setattr__"))),
  decide (PySem.W.findIn K (.ref (A_c_Floor K)) "shift" = some none),
  decide (PySem.W.findIn K (.ref (A_c_Floor K)) "_gauge" = some none),
  excB K (A_c_BadNumber K) (A_c_FloorError K) [.type "ValueError", .type "Exception", .type "BaseException", .type "object"] "ValueError.__new__",
  decide (PySem.W.findIn K (.ref (A_c_BadNumber K)) "__setattr__" = some (some (.builtin "object.__setattr__"))),
  decide (PySem.W.mroIn K (A_c_BadNumber K) (.type "BaseException") = some true),
  decide (PySem.W.typeIn K (.ref (A_c_BadNumber K)) = some (.type "type")),
  decide (PySem.W.keepIn K (.ref (A_c_BadNumber K)) = true),
  decide (PySem.W.findIn K (.ref (A_c_BadNumber K)) "value" = some none),
  decide (PySem.W.findIn K (.ref (A_c_BadNumber K)) "__getattribute__" = some (some (.builtin "BaseException.__getattribute__"))),
  decide (PySem.W.findIn K (.ref (A_c_BadNumber K)) "__getattr__" = some none),
  decide (PySem.W.hasDictIn K (A_c_BadNumber K) = true),
  decide (PySem.W.isClsIn K (A_c_BadNumber K) = true),
  decide (PySem.W.mroIn K (A_c_BadNumber K) (.ref (A_c_BadNumber K)) = some true),
  excB K (A_c_BadPoint K) (A_c_FloorError K) [.type "ValueError", .type "Exception", .type "BaseException", .type "object"] "ValueError.__new__",
  decide (PySem.W.findIn K (.ref (A_c_BadPoint K)) "__setattr__" = some (some (.builtin "object.__setattr__"))),
  decide (PySem.W.mroIn K (A_c_BadPoint K) (.type "BaseException") = some true),
  decide (PySem.W.typeIn K (.ref (A_c_BadPoint K)) = some (.type "type")),
  decide (PySem.W.keepIn K (.ref (A_c_BadPoint K)) = true),
  decide (PySem.W.findIn K (.ref (A_c_BadPoint K)) "point" = some none),
  decide (PySem.W.findIn K (.ref (A_c_BadPoint K)) "__getattribute__" = some (some (.builtin "BaseException.__getattribute__"))),
  decide (PySem.W.findIn K (.ref (A_c_BadPoint K)) "__getattr__" = some none),
  decide (PySem.W.hasDictIn K (A_c_BadPoint K) = true),
  decide (PySem.W.isClsIn K (A_c_BadPoint K) = true),
  decide (PySem.W.mroIn K (A_c_BadPoint K) (.ref (A_c_BadPoint K)) = some true),
  excB K (A_c_BadCorner K) (A_c_FloorError K) [.type "ValueError", .type "Exception", .type "BaseException", .type "object"] "ValueError.__new__",
  decide (PySem.W.findIn K (.ref (A_c_BadCorner K)) "__setattr__" = some (some (.builtin "object.__setattr__"))),
  decide (PySem.W.mroIn K (A_c_BadCorner K) (.type "BaseException") = some true),
  decide (PySem.W.typeIn K (.ref (A_c_BadCorner K)) = some (.type "type")),
  decide (PySem.W.keepIn K (.ref (A_c_BadCorner K)) = true),
  decide (PySem.W.findIn K (.ref (A_c_BadCorner K)) "corner" = some none),
  decide (PySem.W.findIn K (.ref (A_c_BadCorner K)) "__getattribute__" = some (some (.builtin "BaseException.__getattribute__"))),
  decide (PySem.W.findIn K (.ref (A_c_BadCorner K)) "__getattr__" = some none),
  decide (PySem.W.hasDictIn K (A_c_BadCorner K) = true),
  decide (PySem.W.isClsIn K (A_c_BadCorner K) = true),
  decide (PySem.W.mroIn K (A_c_BadCorner K) (.ref (A_c_BadCorner K)) = some true),
  excB K (A_c_Barred K) (A_c_FloorError K) [.type "ValueError", .type "Exception", .type "BaseException", .type "object"] "ValueError.__new__",
  decide (PySem.W.findIn K (.ref (A_c_Barred K)) "__setattr__" = some (some (.builtin "object.__setattr__"))),
  decide (PySem.W.mroIn K (A_c_Barred K) (.type "BaseException") = some true),
  decide (PySem.W.typeIn K (.ref (A_c_Barred K)) = some (.type "type")),
  decide (PySem.W.keepIn K (.ref (A_c_Barred K)) = true),
  decide (PySem.W.findIn K (.ref (A_c_Barred K)) "direction" = some none),
  decide (PySem.W.findIn K (.ref (A_c_Barred K)) "__getattribute__" = some (some (.builtin "BaseException.__getattribute__"))),
  decide (PySem.W.findIn K (.ref (A_c_Barred K)) "__getattr__" = some none),
  decide (PySem.W.hasDictIn K (A_c_Barred K) = true),
  decide (PySem.W.isClsIn K (A_c_Barred K) = true),
  decide (PySem.W.mroIn K (A_c_Barred K) (.ref (A_c_Barred K)) = some true),
  excB K (A_c_NoCorner K) (A_c_FloorError K) [.type "ValueError", .type "Exception", .type "BaseException", .type "object"] "ValueError.__new__",
  decide (PySem.W.findIn K (.ref (A_c_NoCorner K)) "__setattr__" = some (some (.builtin "object.__setattr__"))),
  decide (PySem.W.mroIn K (A_c_NoCorner K) (.type "BaseException") = some true),
  decide (PySem.W.typeIn K (.ref (A_c_NoCorner K)) = some (.type "type")),
  decide (PySem.W.keepIn K (.ref (A_c_NoCorner K)) = true),
  decide (PySem.W.findIn K (.ref (A_c_NoCorner K)) "corner" = some none),
  decide (PySem.W.findIn K (.ref (A_c_NoCorner K)) "__getattribute__" = some (some (.builtin "BaseException.__getattribute__"))),
  decide (PySem.W.findIn K (.ref (A_c_NoCorner K)) "__getattr__" = some none)]
def bs1 (K : PySem.W.Frag) : List Bool := [
  decide (PySem.W.hasDictIn K (A_c_NoCorner K) = true),
  decide (PySem.W.isClsIn K (A_c_NoCorner K) = true),
  decide (PySem.W.mroIn K (A_c_NoCorner K) (.ref (A_c_NoCorner K)) = some true),
  excB K (A_c_BadTile K) (A_c_FloorError K) [.type "ValueError", .type "Exception", .type "BaseException", .type "object"] "ValueError.__new__",
  decide (PySem.W.findIn K (.ref (A_c_BadTile K)) "__setattr__" = some (some (.builtin "object.__setattr__"))),
  decide (PySem.W.mroIn K (A_c_BadTile K) (.type "BaseException") = some true),
  decide (PySem.W.typeIn K (.ref (A_c_BadTile K)) = some (.type "type")),
  decide (PySem.W.keepIn K (.ref (A_c_BadTile K)) = true),
  decide (PySem.W.findIn K (.ref (A_c_BadTile K)) "tile" = some none),
  decide (PySem.W.findIn K (.ref (A_c_BadTile K)) "__getattribute__" = some (some (.builtin "BaseException.__getattribute__"))),
  decide (PySem.W.findIn K (.ref (A_c_BadTile K)) "__getattr__" = some none),
  decide (PySem.W.hasDictIn K (A_c_BadTile K) = true),
  decide (PySem.W.isClsIn K (A_c_BadTile K) = true),
  decide (PySem.W.mroIn K (A_c_BadTile K) (.ref (A_c_BadTile K)) = some true),
  excB K (A_c_NoTile K) (A_c_FloorError K) [.type "ValueError", .type "Exception", .type "BaseException", .type "object"] "ValueError.__new__",
  decide (PySem.W.findIn K (.ref (A_c_NoTile K)) "__setattr__" = some (some (.builtin "object.__setattr__"))),
  decide (PySem.W.mroIn K (A_c_NoTile K) (.type "BaseException") = some true),
  decide (PySem.W.typeIn K (.ref (A_c_NoTile K)) = some (.type "type")),
  decide (PySem.W.keepIn K (.ref (A_c_NoTile K)) = true),
  decide (PySem.W.findIn K (.ref (A_c_NoTile K)) "tile" = some none),
  decide (PySem.W.findIn K (.ref (A_c_NoTile K)) "__getattribute__" = some (some (.builtin "BaseException.__getattribute__"))),
  decide (PySem.W.findIn K (.ref (A_c_NoTile K)) "__getattr__" = some none),
  decide (PySem.W.hasDictIn K (A_c_NoTile K) = true),
  decide (PySem.W.isClsIn K (A_c_NoTile K) = true),
  decide (PySem.W.mroIn K (A_c_NoTile K) (.ref (A_c_NoTile K)) = some true),
  excB K (A_c_BadSide K) (A_c_FloorError K) [.type "ValueError", .type "Exception", .type "BaseException", .type "object"] "ValueError.__new__",
  decide (PySem.W.findIn K (.ref (A_c_BadSide K)) "__setattr__" = some (some (.builtin "object.__setattr__"))),
  decide (PySem.W.mroIn K (A_c_BadSide K) (.type "BaseException") = some true),
  decide (PySem.W.typeIn K (.ref (A_c_BadSide K)) = some (.type "type")),
  decide (PySem.W.keepIn K (.ref (A_c_BadSide K)) = true),
  decide (PySem.W.findIn K (.ref (A_c_BadSide K)) "side" = some none),
  decide (PySem.W.findIn K (.ref (A_c_BadSide K)) "__getattribute__" = some (some (.builtin "BaseException.__getattribute__"))),
  decide (PySem.W.findIn K (.ref (A_c_BadSide K)) "__getattr__" = some none),
  decide (PySem.W.hasDictIn K (A_c_BadSide K) = true),
  decide (PySem.W.isClsIn K (A_c_BadSide K) = true),
  decide (PySem.W.mroIn K (A_c_BadSide K) (.ref (A_c_BadSide K)) = some true),
  isR (PySem.W.nsIn K mainGlobals "is_integral"),
  decide (PySem.W.codeIn K (fdK K (A_f_is_integral K)).code "is_integral" = true),
  decide (PySem.W.keepIn K (.ref (A_f_is_integral K)) = true),
  isR (PySem.W.findIn K (.ref (A_c_BadPoint K)) "__init__"),
  decide (PySem.W.typeIn K (.ref (A_f_BadPoint_init K)) = some (.type "function")),
  decide (PySem.W.codeIn K (fdK K (A_f_BadPoint_init K)).code "BadPoint.__init__" = true),
  decide (PySem.W.keepIn K (.ref (A_f_BadPoint_init K)) = true),
  isR (PySem.W.findIn K (.ref (A_c_BadCorner K)) "__init__"),
  decide (PySem.W.typeIn K (.ref (A_f_BadCorner_init K)) = some (.type "function")),
  decide (PySem.W.codeIn K (fdK K (A_f_BadCorner_init K)).code "BadCorner.__init__" = true),
  decide (PySem.W.keepIn K (.ref (A_f_BadCorner_init K)) = true),
  isR (PySem.W.findIn K (.ref (A_c_Barred K)) "__init__"),
  decide (PySem.W.typeIn K (.ref (A_f_Barred_init K)) = some (.type "function")),
  decide (PySem.W.codeIn K (fdK K (A_f_Barred_init K)).code "Barred.__init__" = true),
  decide (PySem.W.keepIn K (.ref (A_f_Barred_init K)) = true),
  isR (PySem.W.findIn K (.ref (A_c_NoCorner K)) "__init__"),
  decide (PySem.W.typeIn K (.ref (A_f_NoCorner_init K)) = some (.type "function")),
  decide (PySem.W.codeIn K (fdK K (A_f_NoCorner_init K)).code "NoCorner.__init__" = true),
  decide (PySem.W.keepIn K (.ref (A_f_NoCorner_init K)) = true),
  isR (PySem.W.findIn K (.ref (A_c_BadTile K)) "__init__"),
  decide (PySem.W.typeIn K (.ref (A_f_BadTile_init K)) = some (.type "function")),
  decide (PySem.W.codeIn K (fdK K (A_f_BadTile_init K)).code "BadTile.__init__" = true),
  decide (PySem.W.keepIn K (.ref (A_f_BadTile_init K)) = true),
  isR (PySem.W.findIn K (.ref (A_c_NoTile K)) "__init__"),
  decide (PySem.W.typeIn K (.ref (A_f_NoTile_init K)) = some (.type "function")),
  decide (PySem.W.codeIn K (fdK K (A_f_NoTile_init K)).code "NoTile.__init__" = true),
  decide (PySem.W.keepIn K (.ref (A_f_NoTile_init K)) = true),
  isR (PySem.W.findIn K (.ref (A_c_BadSide K)) "__init__"),
  decide (PySem.W.typeIn K (.ref (A_f_BadSide_init K)) = some (.type "function")),
  decide (PySem.W.codeIn K (fdK K (A_f_BadSide_init K)).code "BadSide.__init__" = true),
  decide (PySem.W.keepIn K (.ref (A_f_BadSide_init K)) = true),
  isR (PySem.W.findIn K (.ref (A_c_BadNumber K)) "__init__"),
  decide (PySem.W.typeIn K (.ref (A_f_BadNumber_init K)) = some (.type "function")),
  decide (PySem.W.codeIn K (fdK K (A_f_BadNumber_init K)).code "BadNumber.__init__" = true),
  decide (PySem.W.keepIn K (.ref (A_f_BadNumber_init K)) = true),
  isR (PySem.W.findIn K (.ref (A_c_Root K)) "__init__"),
  decide (PySem.W.isFn K (.ref (A_f_Root_init K)) = true),
  decide (PySem.W.makesIn K (A_c_Root K) = true),
  decide (PySem.W.keepIn K (.ref (A_c_Root K)) = true),
  decide (PySem.W.codeIn K (fdK K (A_f_Root_init K)).code "Root.__init__" = true),
  decide (PySem.W.keepIn K (.ref (A_f_Root_init K)) = true),
  isR (PySem.W.findIn K (.ref (A_c_Root K)) "__eq__"),
  decide (PySem.W.isFn K (.ref (A_f_Root_eq K)) = true),
  decide (PySem.W.codeIn K (fdK K (A_f_Root_eq K)).code "Root.__eq__" = true),
  decide (PySem.W.keepIn K (.ref (A_f_Root_eq K)) = true),
  isR (PySem.W.findIn K (.ref (A_c_Root K)) "__neg__"),
  decide (PySem.W.isFn K (.ref (A_f_Root_neg K)) = true),
  decide (PySem.W.codeIn K (fdK K (A_f_Root_neg K)).code "Root.__neg__" = true),
  decide (PySem.W.keepIn K (.ref (A_f_Root_neg K)) = true),
  isR (PySem.W.nsIn K mainGlobals "is_number"),
  decide (PySem.W.codeIn K (fdK K (A_f_is_number K)).code "is_number" = true),
  decide (PySem.W.keepIn K (.ref (A_f_is_number K)) = true),
  isR (PySem.W.nsIn K mainGlobals "as_root"),
  decide (PySem.W.codeIn K (fdK K (A_f_as_root K)).code "as_root" = true),
  decide (PySem.W.keepIn K (.ref (A_f_as_root K)) = true),
  isR (PySem.W.nsIn K mainGlobals "surd_sign"),
  decide (PySem.W.codeIn K (fdK K (A_f_surd_sign K)).code "surd_sign" = true),
  decide (PySem.W.keepIn K (.ref (A_f_surd_sign K)) = true),
  isR (PySem.W.findIn K (.ref (A_c_Root K)) "__add__"),
  decide (PySem.W.isFn K (.ref (A_f_Root_add K)) = true),
  decide (PySem.W.codeIn K (fdK K (A_f_Root_add K)).code "Root.__add__" = true),
  decide (PySem.W.keepIn K (.ref (A_f_Root_add K)) = true),
  isR (PySem.W.findIn K (.ref (A_c_Root K)) "__sub__"),
  decide (PySem.W.isFn K (.ref (A_f_Root_sub K)) = true)]
def bs2 (K : PySem.W.Frag) : List Bool := [
  decide (PySem.W.codeIn K (fdK K (A_f_Root_sub K)).code "Root.__sub__" = true),
  decide (PySem.W.keepIn K (.ref (A_f_Root_sub K)) = true),
  isR (PySem.W.findIn K (.ref (A_c_Root K)) "__mul__"),
  decide (PySem.W.isFn K (.ref (A_f_Root_mul K)) = true),
  decide (PySem.W.codeIn K (fdK K (A_f_Root_mul K)).code "Root.__mul__" = true),
  decide (PySem.W.keepIn K (.ref (A_f_Root_mul K)) = true),
  isR (PySem.W.findIn K (.ref (A_c_Root K)) "__radd__"),
  decide (PySem.W.isFn K (.ref (A_f_Root_radd K)) = true),
  decide (PySem.W.codeIn K (fdK K (A_f_Root_radd K)).code "Root.__radd__" = true),
  decide (PySem.W.keepIn K (.ref (A_f_Root_radd K)) = true),
  isR (PySem.W.findIn K (.ref (A_c_Root K)) "__rmul__"),
  decide (PySem.W.isFn K (.ref (A_f_Root_rmul K)) = true),
  decide (PySem.W.codeIn K (fdK K (A_f_Root_rmul K)).code "Root.__rmul__" = true),
  decide (PySem.W.keepIn K (.ref (A_f_Root_rmul K)) = true),
  isR (PySem.W.findIn K (.ref (A_c_Root K)) "__rsub__"),
  decide (PySem.W.isFn K (.ref (A_f_Root_rsub K)) = true),
  decide (PySem.W.codeIn K (fdK K (A_f_Root_rsub K)).code "Root.__rsub__" = true),
  decide (PySem.W.keepIn K (.ref (A_f_Root_rsub K)) = true),
  isR (PySem.W.findIn K (.ref (A_c_Root K)) "less"),
  decide (PySem.W.isFn K (.ref (A_f_Root_less K)) = true),
  decide (PySem.W.codeIn K (fdK K (A_f_Root_less K)).code "Root.less" = true),
  decide (PySem.W.keepIn K (.ref (A_f_Root_less K)) = true),
  isR (PySem.W.nsIn K mainGlobals "_law_start"),
  decide (PySem.W.codeIn K (fdK K (A_f__law_start K)).code "_law_start" = true),
  decide (PySem.W.keepIn K (.ref (A_f__law_start K)) = true),
  isR (PySem.W.nsIn K mainGlobals "_law_mixed"),
  decide (PySem.W.codeIn K (fdK K (A_f__law_mixed K)).code "_law_mixed" = true),
  decide (PySem.W.keepIn K (.ref (A_f__law_mixed K)) = true),
  isR (PySem.W.nsIn K mainGlobals "_law_draw"),
  decide (PySem.W.codeIn K (fdK K (A_f__law_draw K)).code "_law_draw" = true),
  decide (PySem.W.keepIn K (.ref (A_f__law_draw K)) = true),
  isR (PySem.W.nsIn K mainGlobals "_law_between"),
  decide (PySem.W.codeIn K (fdK K (A_f__law_between K)).code "_law_between" = true),
  decide (PySem.W.keepIn K (.ref (A_f__law_between K)) = true),
  isR (PySem.W.nsIn K mainGlobals "_law_plus"),
  decide (PySem.W.codeIn K (fdK K (A_f__law_plus K)).code "_law_plus" = true),
  decide (PySem.W.keepIn K (.ref (A_f__law_plus K)) = true),
  isR (PySem.W.nsIn K mainGlobals "_law_minus"),
  decide (PySem.W.codeIn K (fdK K (A_f__law_minus K)).code "_law_minus" = true),
  decide (PySem.W.keepIn K (.ref (A_f__law_minus K)) = true),
  isR (PySem.W.nsIn K mainGlobals "_law_sign"),
  decide (PySem.W.codeIn K (fdK K (A_f__law_sign K)).code "_law_sign" = true),
  decide (PySem.W.keepIn K (.ref (A_f__law_sign K)) = true),
  isR (PySem.W.nsIn K mainGlobals "is_corner"),
  decide (PySem.W.codeIn K (fdK K (A_f_is_corner K)).code "is_corner" = true),
  decide (PySem.W.keepIn K (.ref (A_f_is_corner K)) = true),
  isR (PySem.W.nsIn K mainGlobals "check_corner"),
  decide (PySem.W.codeIn K (fdK K (A_f_check_corner K)).code "check_corner" = true),
  decide (PySem.W.keepIn K (.ref (A_f_check_corner K)) = true),
  isR (PySem.W.nsIn K mainGlobals "step"),
  decide (PySem.W.codeIn K (fdK K (A_f_step K)).code "step" = true),
  decide (PySem.W.keepIn K (.ref (A_f_step K)) = true),
  isR (PySem.W.nsIn K mainGlobals "_law_star"),
  decide (PySem.W.codeIn K (fdK K (A_f__law_star K)).code "_law_star" = true),
  decide (PySem.W.keepIn K (.ref (A_f__law_star K)) = true),
  isR (PySem.W.nsIn K mainGlobals "_law_corner"),
  decide (PySem.W.codeIn K (fdK K (A_f__law_corner K)).code "_law_corner" = true),
  decide (PySem.W.keepIn K (.ref (A_f__law_corner K)) = true),
  isR (PySem.W.nsIn K mainGlobals "_law_is_corner"),
  decide (PySem.W.codeIn K (fdK K (A_f__law_is_corner K)).code "_law_is_corner" = true),
  decide (PySem.W.keepIn K (.ref (A_f__law_is_corner K)) = true),
  isR (PySem.W.nsIn K mainGlobals "is_point"),
  decide (PySem.W.codeIn K (fdK K (A_f_is_point K)).code "is_point" = true),
  decide (PySem.W.keepIn K (.ref (A_f_is_point K)) = true),
  isR (PySem.W.nsIn K mainGlobals "as_roots"),
  decide (PySem.W.codeIn K (fdK K (A_f_as_roots K)).code "as_roots" = true),
  decide (PySem.W.keepIn K (.ref (A_f_as_roots K)) = true),
  isR (PySem.W.nsIn K mainGlobals "_law_given"),
  decide (PySem.W.codeIn K (fdK K (A_f__law_given K)).code "_law_given" = true),
  decide (PySem.W.keepIn K (.ref (A_f__law_given K)) = true),
  isR (PySem.W.nsIn K mainGlobals "check_point"),
  decide (PySem.W.codeIn K (fdK K (A_f_check_point K)).code "check_point" = true),
  decide (PySem.W.keepIn K (.ref (A_f_check_point K)) = true),
  isR (PySem.W.nsIn K mainGlobals "is_half"),
  decide (PySem.W.codeIn K (fdK K (A_f_is_half K)).code "is_half" = true),
  decide (PySem.W.keepIn K (.ref (A_f_is_half K)) = true),
  isR (PySem.W.nsIn K mainGlobals "bars_evenly"),
  decide (PySem.W.codeIn K (fdK K (A_f_bars_evenly K)).code "bars_evenly" = true),
  decide (PySem.W.keepIn K (.ref (A_f_bars_evenly K)) = true),
  isR (PySem.W.nsIn K mainGlobals "bars_oddly"),
  decide (PySem.W.codeIn K (fdK K (A_f_bars_oddly K)).code "bars_oddly" = true),
  decide (PySem.W.keepIn K (.ref (A_f_bars_oddly K)) = true),
  isR (PySem.W.nsIn K mainGlobals "barred"),
  decide (PySem.W.codeIn K (fdK K (A_f_barred K)).code "barred" = true),
  decide (PySem.W.keepIn K (.ref (A_f_barred K)) = true),
  isR (PySem.W.nsIn K mainGlobals "gauge_of"),
  decide (PySem.W.codeIn K (fdK K (A_f_gauge_of K)).code "gauge_of" = true),
  decide (PySem.W.keepIn K (.ref (A_f_gauge_of K)) = true),
  isR (PySem.W.nsIn K mainGlobals "beside"),
  decide (PySem.W.codeIn K (fdK K (A_f_beside K)).code "beside" = true),
  decide (PySem.W.keepIn K (.ref (A_f_beside K)) = true),
  isR (PySem.W.nsIn K mainGlobals "in_window"),
  decide (PySem.W.codeIn K (fdK K (A_f_in_window K)).code "in_window" = true),
  decide (PySem.W.keepIn K (.ref (A_f_in_window K)) = true),
  isR (PySem.W.findIn K (.ref (A_c_Floor K)) "__init__"),
  decide (PySem.W.isFn K (.ref (A_f_Floor_init K)) = true),
  decide (PySem.W.makesIn K (A_c_Floor K) = true),
  decide (PySem.W.keepIn K (.ref (A_c_Floor K)) = true),
  decide (PySem.W.codeIn K (fdK K (A_f_Floor_init K)).code "Floor.__init__" = true),
  decide (PySem.W.keepIn K (.ref (A_f_Floor_init K)) = true)]
def bs3 (K : PySem.W.Frag) : List Bool := [
  isR (PySem.W.findIn K (.ref (A_c_Floor K)) "has_corner"),
  decide (PySem.W.isFn K (.ref (A_f_Floor_has_corner K)) = true),
  decide (PySem.W.codeIn K (fdK K (A_f_Floor_has_corner K)).code "Floor.has_corner" = true),
  decide (PySem.W.keepIn K (.ref (A_f_Floor_has_corner K)) = true),
  isR (PySem.W.nsIn K mainGlobals "_law_lines"),
  decide (PySem.W.codeIn K (fdK K (A_f__law_lines K)).code "_law_lines" = true),
  decide (PySem.W.keepIn K (.ref (A_f__law_lines K)) = true),
  isR (PySem.W.nsIn K mainGlobals "_law_inside"),
  decide (PySem.W.codeIn K (fdK K (A_f__law_inside K)).code "_law_inside" = true),
  decide (PySem.W.keepIn K (.ref (A_f__law_inside K)) = true),
  isR (PySem.W.nsIn K mainGlobals "_law_is_odd_half"),
  decide (PySem.W.codeIn K (fdK K (A_f__law_is_odd_half K)).code "_law_is_odd_half" = true),
  decide (PySem.W.keepIn K (.ref (A_f__law_is_odd_half K)) = true),
  isR (PySem.W.nsIn K mainGlobals "_law_barred"),
  decide (PySem.W.codeIn K (fdK K (A_f__law_barred K)).code "_law_barred" = true),
  decide (PySem.W.keepIn K (.ref (A_f__law_barred K)) = true),
  isR (PySem.W.nsIn K mainGlobals "_law_spot"),
  decide (PySem.W.codeIn K (fdK K (A_f__law_spot K)).code "_law_spot" = true),
  decide (PySem.W.keepIn K (.ref (A_f__law_spot K)) = true),
  isR (PySem.W.nsIn K mainGlobals "_law_shift"),
  decide (PySem.W.codeIn K (fdK K (A_f__law_shift K)).code "_law_shift" = true),
  decide (PySem.W.keepIn K (.ref (A_f__law_shift K)) = true),
  isR (PySem.W.nsIn K mainGlobals "_law_has"),
  decide (PySem.W.codeIn K (fdK K (A_f__law_has K)).code "_law_has" = true),
  decide (PySem.W.keepIn K (.ref (A_f__law_has K)) = true),
  isR (PySem.W.findIn K (.ref (A_c_Floor K)) "_ways"),
  decide (PySem.W.isFn K (.ref (A_f_Floorways K)) = true),
  decide (PySem.W.codeIn K (fdK K (A_f_Floorways K)).code "Floor._ways" = true),
  decide (PySem.W.keepIn K (.ref (A_f_Floorways K)) = true),
  isR (PySem.W.findIn K (.ref (A_c_Floor K)) "sides"),
  decide (PySem.W.isFn K (.ref (A_f_Floor_sides K)) = true),
  decide (PySem.W.codeIn K (fdK K (A_f_Floor_sides K)).code "Floor.sides" = true),
  decide (PySem.W.keepIn K (.ref (A_f_Floor_sides K)) = true),
  isR (PySem.W.nsIn K mainGlobals "_law_step"),
  decide (PySem.W.codeIn K (fdK K (A_f__law_step K)).code "_law_step" = true),
  decide (PySem.W.keepIn K (.ref (A_f__law_step K)) = true),
  isR (PySem.W.nsIn K mainGlobals "_law_sides"),
  decide (PySem.W.codeIn K (fdK K (A_f__law_sides K)).code "_law_sides" = true),
  decide (PySem.W.keepIn K (.ref (A_f__law_sides K)) = true),
  isR (PySem.W.nsIn K mainGlobals "_law_floor"),
  decide (PySem.W.codeIn K (fdK K (A_f__law_floor K)).code "_law_floor" = true),
  decide (PySem.W.keepIn K (.ref (A_f__law_floor K)) = true),
  isR (PySem.W.nsIn K mainGlobals "is_tile"),
  decide (PySem.W.codeIn K (fdK K (A_f_is_tile K)).code "is_tile" = true),
  decide (PySem.W.keepIn K (.ref (A_f_is_tile K)) = true),
  isR (PySem.W.nsIn K mainGlobals "check_tile"),
  decide (PySem.W.codeIn K (fdK K (A_f_check_tile K)).code "check_tile" = true),
  decide (PySem.W.keepIn K (.ref (A_f_check_tile K)) = true),
  isR (PySem.W.nsIn K mainGlobals "tile_corners"),
  decide (PySem.W.codeIn K (fdK K (A_f_tile_corners K)).code "tile_corners" = true),
  decide (PySem.W.keepIn K (.ref (A_f_tile_corners K)) = true),
  isR (PySem.W.findIn K (.ref (A_c_Floor K)) "has_tile"),
  decide (PySem.W.isFn K (.ref (A_f_Floor_has_tile K)) = true),
  decide (PySem.W.codeIn K (fdK K (A_f_Floor_has_tile K)).code "Floor.has_tile" = true),
  decide (PySem.W.keepIn K (.ref (A_f_Floor_has_tile K)) = true),
  isR (PySem.W.nsIn K mainGlobals "_law_ends"),
  decide (PySem.W.codeIn K (fdK K (A_f__law_ends K)).code "_law_ends" = true),
  decide (PySem.W.keepIn K (.ref (A_f__law_ends K)) = true),
  isR (PySem.W.nsIn K mainGlobals "_law_has_tile"),
  decide (PySem.W.codeIn K (fdK K (A_f__law_has_tile K)).code "_law_has_tile" = true),
  decide (PySem.W.keepIn K (.ref (A_f__law_has_tile K)) = true),
  isR (PySem.W.nsIn K mainGlobals "_law_tile_between"),
  decide (PySem.W.codeIn K (fdK K (A_f__law_tile_between K)).code "_law_tile_between" = true),
  decide (PySem.W.keepIn K (.ref (A_f__law_tile_between K)) = true),
  isR (PySem.W.nsIn K mainGlobals "_law_tiles_at"),
  decide (PySem.W.codeIn K (fdK K (A_f__law_tiles_at K)).code "_law_tiles_at" = true),
  decide (PySem.W.keepIn K (.ref (A_f__law_tiles_at K)) = true),
  isR (PySem.W.nsIn K mainGlobals "tile_between"),
  decide (PySem.W.codeIn K (fdK K (A_f_tile_between K)).code "tile_between" = true),
  decide (PySem.W.keepIn K (.ref (A_f_tile_between K)) = true),
  isR (PySem.W.findIn K (.ref (A_c_Floor K)) "tiles_at"),
  decide (PySem.W.isFn K (.ref (A_f_Floor_tiles_at K)) = true),
  decide (PySem.W.codeIn K (fdK K (A_f_Floor_tiles_at K)).code "Floor.tiles_at" = true),
  decide (PySem.W.keepIn K (.ref (A_f_Floor_tiles_at K)) = true),
  isR (PySem.W.findIn K (.ref (A_c_Floor K)) "across"),
  decide (PySem.W.isFn K (.ref (A_f_Floor_across K)) = true),
  decide (PySem.W.codeIn K (fdK K (A_f_Floor_across K)).code "Floor.across" = true),
  decide (PySem.W.keepIn K (.ref (A_f_Floor_across K)) = true),
  isR (PySem.W.nsIn K mainGlobals "_law_is_tile"),
  decide (PySem.W.codeIn K (fdK K (A_f__law_is_tile K)).code "_law_is_tile" = true),
  decide (PySem.W.keepIn K (.ref (A_f__law_is_tile K)) = true),
  isR (PySem.W.nsIn K mainGlobals "_law_side_ends"),
  decide (PySem.W.codeIn K (fdK K (A_f__law_side_ends K)).code "_law_side_ends" = true),
  decide (PySem.W.keepIn K (.ref (A_f__law_side_ends K)) = true),
  isR (PySem.W.nsIn K mainGlobals "_law_side_with"),
  decide (PySem.W.codeIn K (fdK K (A_f__law_side_with K)).code "_law_side_with" = true),
  decide (PySem.W.keepIn K (.ref (A_f__law_side_with K)) = true),
  isR (PySem.W.nsIn K mainGlobals "_law_common"),
  decide (PySem.W.codeIn K (fdK K (A_f__law_common K)).code "_law_common" = true),
  decide (PySem.W.keepIn K (.ref (A_f__law_common K)) = true),
  isR (PySem.W.nsIn K mainGlobals "_law_round"),
  decide (PySem.W.codeIn K (fdK K (A_f__law_round K)).code "_law_round" = true),
  decide (PySem.W.keepIn K (.ref (A_f__law_round K)) = true),
  isR (PySem.W.nsIn K mainGlobals "law"),
  decide (PySem.W.codeIn K (fdK K (A_f_law K)).code "law" = true),
  decide (PySem.W.keepIn K (.ref (A_f_law K)) = true)]
def fs0 (K : PySem.W.Frag) : List FnT := [
  fnT K (A_f_is_integral K),
  fnT K (A_f_BadPoint_init K),
  fnT K (A_f_BadCorner_init K),
  fnT K (A_f_Barred_init K),
  fnT K (A_f_NoCorner_init K),
  fnT K (A_f_BadTile_init K),
  fnT K (A_f_NoTile_init K),
  fnT K (A_f_BadSide_init K),
  fnT K (A_f_BadNumber_init K),
  fnT K (A_f_Root_init K),
  fnT K (A_f_Root_eq K),
  fnT K (A_f_Root_neg K),
  fnT K (A_f_is_number K),
  fnT K (A_f_as_root K),
  fnT K (A_f_surd_sign K),
  fnT K (A_f_Root_add K),
  fnT K (A_f_Root_sub K),
  fnT K (A_f_Root_mul K),
  fnT K (A_f_Root_radd K),
  fnT K (A_f_Root_rmul K),
  fnT K (A_f_Root_rsub K),
  fnT K (A_f_Root_less K),
  fnT K (A_f__law_start K),
  fnT K (A_f__law_mixed K),
  fnT K (A_f__law_draw K),
  fnT K (A_f__law_between K),
  fnT K (A_f__law_plus K),
  fnT K (A_f__law_minus K),
  fnT K (A_f__law_sign K),
  fnT K (A_f_is_corner K),
  fnT K (A_f_check_corner K),
  fnT K (A_f_step K),
  fnT K (A_f__law_star K),
  fnT K (A_f__law_corner K),
  fnT K (A_f__law_is_corner K),
  fnT K (A_f_is_point K),
  fnT K (A_f_as_roots K),
  fnT K (A_f__law_given K),
  fnT K (A_f_check_point K),
  fnT K (A_f_is_half K)]
def ws0 : List FnT := [
  fnE "is_integral" "is_integral" Z_s_is_integral,
  fnE "__init__" "BadPoint.__init__" Z_s_BadPoint_init,
  fnE "__init__" "BadCorner.__init__" Z_s_BadCorner_init,
  fnE "__init__" "Barred.__init__" Z_s_Barred_init,
  fnE "__init__" "NoCorner.__init__" Z_s_NoCorner_init,
  fnE "__init__" "BadTile.__init__" Z_s_BadTile_init,
  fnE "__init__" "NoTile.__init__" Z_s_NoTile_init,
  fnE "__init__" "BadSide.__init__" Z_s_BadSide_init,
  fnE "__init__" "BadNumber.__init__" Z_s_BadNumber_init,
  fnE "__init__" "Root.__init__" Z_s_Root_init,
  fnE "__eq__" "Root.__eq__" Z_s_Root_eq,
  fnE "__neg__" "Root.__neg__" Z_s_Root_neg,
  fnE "is_number" "is_number" Z_s_is_number,
  fnE "as_root" "as_root" Z_s_as_root,
  fnE "surd_sign" "surd_sign" Z_s_surd_sign,
  fnE "__add__" "Root.__add__" Z_s_Root_add,
  fnE "__sub__" "Root.__sub__" Z_s_Root_sub,
  fnE "__mul__" "Root.__mul__" Z_s_Root_mul,
  fnE "__radd__" "Root.__radd__" Z_s_Root_radd,
  fnE "__rmul__" "Root.__rmul__" Z_s_Root_rmul,
  fnE "__rsub__" "Root.__rsub__" Z_s_Root_rsub,
  fnE "less" "Root.less" Z_s_Root_less,
  fnE "_law_start" "_law_start" Z_s__law_start,
  fnE "_law_mixed" "_law_mixed" Z_s__law_mixed,
  fnE "_law_draw" "_law_draw" Z_s__law_draw,
  fnE "_law_between" "_law_between" Z_s__law_between,
  fnE "_law_plus" "_law_plus" Z_s__law_plus,
  fnE "_law_minus" "_law_minus" Z_s__law_minus,
  fnE "_law_sign" "_law_sign" Z_s__law_sign,
  fnE "is_corner" "is_corner" Z_s_is_corner,
  fnE "check_corner" "check_corner" Z_s_check_corner,
  fnE "step" "step" Z_s_step,
  fnE "_law_star" "_law_star" Z_s__law_star,
  fnE "_law_corner" "_law_corner" Z_s__law_corner,
  fnE "_law_is_corner" "_law_is_corner" Z_s__law_is_corner,
  fnE "is_point" "is_point" Z_s_is_point,
  fnE "as_roots" "as_roots" Z_s_as_roots,
  fnE "_law_given" "_law_given" Z_s__law_given,
  fnE "check_point" "check_point" Z_s_check_point,
  fnE "is_half" "is_half" Z_s_is_half]
def fs1 (K : PySem.W.Frag) : List FnT := [
  fnT K (A_f_bars_evenly K),
  fnT K (A_f_bars_oddly K),
  fnT K (A_f_barred K),
  fnT K (A_f_gauge_of K),
  fnT K (A_f_beside K),
  fnT K (A_f_in_window K),
  fnT K (A_f_Floor_init K),
  fnT K (A_f_Floor_has_corner K),
  fnT K (A_f__law_lines K),
  fnT K (A_f__law_inside K),
  fnT K (A_f__law_is_odd_half K),
  fnT K (A_f__law_barred K),
  fnT K (A_f__law_spot K),
  fnT K (A_f__law_shift K),
  fnT K (A_f__law_has K),
  fnT K (A_f_Floorways K),
  fnT K (A_f_Floor_sides K),
  fnT K (A_f__law_step K),
  fnT K (A_f__law_sides K),
  fnT K (A_f__law_floor K),
  fnT K (A_f_is_tile K),
  fnT K (A_f_check_tile K),
  fnT K (A_f_tile_corners K),
  fnT K (A_f_Floor_has_tile K),
  fnT K (A_f__law_ends K),
  fnT K (A_f__law_has_tile K),
  fnT K (A_f__law_tile_between K),
  fnT K (A_f__law_tiles_at K),
  fnT K (A_f_tile_between K),
  fnT K (A_f_Floor_tiles_at K),
  fnT K (A_f_Floor_across K),
  fnT K (A_f__law_is_tile K),
  fnT K (A_f__law_side_ends K),
  fnT K (A_f__law_side_with K),
  fnT K (A_f__law_common K),
  fnT K (A_f__law_round K),
  fnT K (A_f_law K)]
def ws1 : List FnT := [
  fnE "bars_evenly" "bars_evenly" Z_s_bars_evenly,
  fnE "bars_oddly" "bars_oddly" Z_s_bars_oddly,
  fnE "barred" "barred" Z_s_barred,
  fnE "gauge_of" "gauge_of" Z_s_gauge_of,
  fnE "beside" "beside" Z_s_beside,
  fnE "in_window" "in_window" Z_s_in_window,
  fnE "__init__" "Floor.__init__" Z_s_Floor_init,
  fnE "has_corner" "Floor.has_corner" Z_s_Floor_has_corner,
  fnE "_law_lines" "_law_lines" Z_s__law_lines,
  fnE "_law_inside" "_law_inside" Z_s__law_inside,
  fnE "_law_is_odd_half" "_law_is_odd_half" Z_s__law_is_odd_half,
  fnE "_law_barred" "_law_barred" Z_s__law_barred,
  fnE "_law_spot" "_law_spot" Z_s__law_spot,
  fnE "_law_shift" "_law_shift" Z_s__law_shift,
  fnE "_law_has" "_law_has" Z_s__law_has,
  fnE "_ways" "Floor._ways" Z_s_Floorways,
  fnE "sides" "Floor.sides" Z_s_Floor_sides,
  fnE "_law_step" "_law_step" Z_s__law_step,
  fnE "_law_sides" "_law_sides" Z_s__law_sides,
  fnE "_law_floor" "_law_floor" Z_s__law_floor,
  fnE "is_tile" "is_tile" Z_s_is_tile,
  fnE "check_tile" "check_tile" Z_s_check_tile,
  fnE "tile_corners" "tile_corners" Z_s_tile_corners,
  fnE "has_tile" "Floor.has_tile" Z_s_Floor_has_tile,
  fnE "_law_ends" "_law_ends" Z_s__law_ends,
  fnE "_law_has_tile" "_law_has_tile" Z_s__law_has_tile,
  fnE "_law_tile_between" "_law_tile_between" Z_s__law_tile_between,
  fnE "_law_tiles_at" "_law_tiles_at" Z_s__law_tiles_at,
  fnE "tile_between" "tile_between" Z_s_tile_between,
  fnE "tiles_at" "Floor.tiles_at" Z_s_Floor_tiles_at,
  fnE "across" "Floor.across" Z_s_Floor_across,
  fnE "_law_is_tile" "_law_is_tile" Z_s__law_is_tile,
  fnE "_law_side_ends" "_law_side_ends" Z_s__law_side_ends,
  fnE "_law_side_with" "_law_side_with" Z_s__law_side_with,
  fnE "_law_common" "_law_common" Z_s__law_common,
  fnE "_law_round" "_law_round" Z_s__law_round,
  fnE "law" "law" Z_s_law]
def bsK (K : PySem.W.Frag) : List Bool := bs0 K ++ (bs1 K ++ (bs2 K ++ (bs3 K ++ ([]))))
def fsK (K : PySem.W.Frag) : List FnT := fs0 K ++ (fs1 K ++ ([]))
def wsK : List FnT := ws0 ++ (ws1 ++ ([]))
theorem run0 (w : World) : HandSHeadRun.RunEqI (PySem.W.OpenLaw.row PySem.Challenge.rw_threetiles_k14_whole_walks_across_tiles) (PySem.W.view (PySem.W.OpenLaw.row PySem.Challenge.rw_threetiles_k14_whole_walks_across_tiles).prog [73]) (hookF nsK (fun _ => []) (fun _ => []) []) (obF nsK (fun _ => []) (fun _ => [])) 20000 namesK w := by
  unfold HandSHeadRun.RunEqI
  kernel_rfl
theorem runB0 (w : World) : RunB (PySem.W.OpenLaw.row PySem.Challenge.rw_threetiles_k14_whole_walks_across_tiles) 20000 w nsK bs0 := by
  unfold RunB
  kernel_rfl
theorem runB1 (w : World) : RunB (PySem.W.OpenLaw.row PySem.Challenge.rw_threetiles_k14_whole_walks_across_tiles) 20000 w nsK bs1 := by
  unfold RunB
  kernel_rfl
theorem runB2 (w : World) : RunB (PySem.W.OpenLaw.row PySem.Challenge.rw_threetiles_k14_whole_walks_across_tiles) 20000 w nsK bs2 := by
  unfold RunB
  kernel_rfl
theorem runB3 (w : World) : RunB (PySem.W.OpenLaw.row PySem.Challenge.rw_threetiles_k14_whole_walks_across_tiles) 20000 w nsK bs3 := by
  unfold RunB
  kernel_rfl
theorem runF0 (w : World) : RunF (PySem.W.OpenLaw.row PySem.Challenge.rw_threetiles_k14_whole_walks_across_tiles) 20000 w nsK fs0 ws0 := by
  unfold RunF
  kernel_rfl
theorem runF1 (w : World) : RunF (PySem.W.OpenLaw.row PySem.Challenge.rw_threetiles_k14_whole_walks_across_tiles) 20000 w nsK fs1 ws1 := by
  unfold RunF
  kernel_rfl
theorem runH (w : World) : HandSHeadRun.RunEqI (PySem.W.OpenLaw.row PySem.Challenge.rw_threetiles_k14_whole_walks_across_tiles) (PySem.W.view (PySem.W.OpenLaw.row PySem.Challenge.rw_threetiles_k14_whole_walks_across_tiles).prog [73]) (hookF nsK bsK fsK wsK) (obF nsK bsK fsK) 20000 namesK w :=
  run_f (run_f (run_b (run_b (run_b (run_b (run0 w) (runB3 w)) (runB2 w)) (runB1 w)) (runB0 w)) (runF1 w)) (runF0 w)
end L2.My

/-! W0: what all my proofs share: callees by name (Has), steps that walk a reading (walk_at "w"), wide rules. -/
namespace L2.My
open PySem PySem.Spec PyProof.Rows

/-! ### callees by name -/
section
variable (P : Program) (w : World) (K : PySem.W.Frag) (mg : Str → Option Value) (base : Heap)
/-- a def of the module that keeps a promise -/
def Has (x : Str) (k : Nat) (ps : List Str) (sp : Sp) : Prop :=
  ∃ f fd, FnOk P w K mg base (L2.CX P w) k f fd ps sp ∧ mg x = some (.ref f) ∧ PySem.W.keepIn K (.ref f) = true ∧ Binds K fd ps []
/-- a method -/
def HasM (C : Addr) (m : Str) (k : Nat) (ps : List Str) (sp : Sp) : Prop :=
  ∃ f fd, FnOk P w K mg base (L2.CX P w) k f fd ps sp ∧ Meth K C m f ∧ Binds K fd ps []
/-- a class that is made -/
def HasC (x : Str) (C : Addr) (k : Nat) (ps : List Str) (sp : Sp) : Prop :=
  ∃ f fd, FnOk P w K mg base (L2.CX P w) k f fd ps sp ∧ Mk K C f ∧ mg x = some (.ref C) ∧ Binds K fd ps []
end
section
variable {X : Cx} {x m : Str} {k j : Nat} {ps : List Str} {sp : Sp} {E : St → XK} {e o : Expr} {es : List Expr} {t : TA} {ta : TE} {p pos apos : Pos} {C f : Addr} {fd : FuncData}
/-- nothing is let out -/
theorem pa0 : ∀ σ, PassesAt (L2.CX X.prog X.w) X σ ((fun _ => E0 : St → XK) σ) := fun σ pins H s e s' I h => passL pins σ H s e s' I h
/-- what is wished at the slots -/
theorem paW {W : WX} (tk : Takes X W) : ∀ σ, PassesAt (L2.CX X.prog X.w) X σ (WE W σ) := fun σ => passAt tk σ
/-- what the def wishes of an exception -/
abbrev ED (E : XK) : St → XK := WE (fun cls d _ H => E cls d H)
theorem pe_h (h : Has X.prog X.w X.K X.mg X.base x k ps sp) (hr : Room j X.A) (hx : ∀ σ, PassesAt (L2.CX X.prog X.w) X σ (E σ)) (ha : PA X (e :: es) t) (hj : k ≤ j := by decide) (hg : Gl X x := by rfl) (hdb : (x == ("__debug__" : Str)) = false := by decide)
    (he : starEach (e :: es) X.env = (false, eval e X.env) :: starEach es X.env := by rfl) (hpl : (backTo pos (starEach es X.env)).any (·.1) = false := by rfl) :
    PE X (.Call (.Name x p) (e :: es) [] pos) (tCallS sp E t) := by
  obtain ⟨f, fd, F, hm, hk, hb⟩ := h
  exact pe_callS F (hr.mono hj) hg hm hk hb hx ha hdb he hpl
theorem pe_h0 (h : Has X.prog X.w X.K X.mg X.base x k ps sp) (hr : Room j X.A) (hx : ∀ σ, PassesAt (L2.CX X.prog X.w) X σ (E σ)) (hj : k ≤ j := by decide) (hg : Gl X x := by rfl) (hdb : (x == ("__debug__" : Str)) = false := by decide) :
    PE X (.Call (.Name x p) [] [] pos) (tCallS sp E tNil) := by
  obtain ⟨f, fd, F, hm, hk, hb⟩ := h
  refine ⟨fun pins s σ H Q I hh => ?_⟩
  refine wpAny_Call_Name_kw (ld_glob I hg hm ?_ hdb)
  exact PySem.W.callWith_K0 I.kIn hk (run_fnS (us := []) F (hr.mono hj) hb (hx σ) I .nil hh)
/-- C(..) -/
theorem run_makeS {pins : List (Addr × Obj)} {σ : St} {H : Hp} {s : Shared} {Q : VK} {us : List Value} {vs : List V} (M : Mk X.K C f) (F : FnOk X.prog X.w X.K X.mg X.base (L2.CX X.prog X.w) k f fd ps sp) (hr : Room (k + 1) X.A) (hb : Binds X.K fd ps [])
    (hx : PassesAt (L2.CX X.prog X.w) X σ (E σ)) (I : Inv X pins σ H s) (r : Vals vs us)
    (h : ∀ x dx, H x = none → H dx = none → dx ≠ x → sp (.ref x :: vs) (upd (upd H dx (.own x)) x (.ins C dx [])) (fun v H2 => v = .non ∧ Q (.ref x) H2) (E σ)) :
    wpAny (model X.prog X.w) X.A (call (.ref C) us) (EP X pins σ Q) X.xe s := by
  have hq := h (s.heap.objs.size + 1) s.heap.objs.size (I.hok.fresh (Nat.le_succ _)) (I.hok.fresh (Nat.le_refl _)) (Nat.ne_of_lt (Nat.lt_succ_self _))
  have I2 := Inv.made (C := C) I
  have r2 : Vals (V.ref (s.heap.objs.size + 1) :: vs) (Value.ref (s.heap.objs.size + 1) :: us) := .cons rfl r
  have hl : (Value.ref (s.heap.objs.size + 1) :: us).length = ps.length := by
    have e := r2.length
    rw [F.len _ _ _ _ hq] at e
    exact e.symm
  have bb := hb _ (Value.ref (s.heap.objs.size + 1) :: us) I2.kIn (by rw [List.append_nil]; exact hl)
  rw [List.append_nil] at bb
  refine wpAny_call (make_map (f := f) I.kIn M.makes M.init (beq_iff_eq.mp M.fn) (codeAny_mono (F.run _ X.stack _ _ ⟨Value.ref (s.heap.objs.size + 1) :: us, []⟩ (Value.ref (s.heap.objs.size + 1) :: us) _ _ (E σ) (hr.make C us [])
    (I2.env0.make C us []) bb r2 hq) fun r s' hq' => ?_))
  cases r with
  | error e => exact hx pins _ _ e s' I2 hq'
  | ok fl =>
    cases fl with
    | ret u =>
      obtain ⟨v, H', I3, rv, ev, q3⟩ := I2.after hq'
      subst ev
      exact ⟨rv, ⟨V.ref (s.heap.objs.size + 1), H', I3, rfl, q3⟩⟩
    | next => exact False.elim hq'
    | brk => exact False.elim hq'
    | cont => exact False.elim hq'
def tMakeS (C : Addr) (sp : Sp) (E : St → XK) (t : TA) : TE := fun σ H Q => t σ H fun vs H1 => ∀ x dx, H1 x = none → H1 dx = none → dx ≠ x →
  sp (.ref x :: vs) (upd (upd H1 dx (.own x)) x (.ins C dx [])) (fun v H2 => v = .non ∧ Q (.ref x) H2) (E σ)
theorem pe_hc (h : HasC X.prog X.w X.K X.mg X.base x C k ps sp) (hr : Room j X.A) (hx : ∀ σ, PassesAt (L2.CX X.prog X.w) X σ (E σ)) (ha : PA X (e :: es) t) (hj : k + 1 ≤ j := by decide) (hg : Gl X x := by rfl) (hdb : (x == ("__debug__" : Str)) = false := by decide)
    (he : starEach (e :: es) X.env = (false, eval e X.env) :: starEach es X.env := by rfl) (hpl : (backTo pos (starEach es X.env)).any (·.1) = false := by rfl) :
    PE X (.Call (.Name x p) (e :: es) [] pos) (tMakeS C sp E t) := by
  obtain ⟨f, fd, F, M, hm, hb⟩ := h
  refine ⟨fun pins s σ H Q I h => ?_⟩
  refine wpAny_Call_Name_kw (ld_glob I hg hm ?_ hdb)
  refine PySem.W.callWith_K (h₀ := X.base) I.ok.mod.kin M.kp (thn (ha.run pos pins s σ H _ I h) fun us s1 ⟨vs, H1, I1, r, q⟩ => ⟨I1.kIn, ?_⟩) he hpl
  exact run_makeS M F (hr.mono hj) hb (hx σ) I1 r q
/-- o.m(..) -/
def tMethS (C : Addr) (m : Str) (sp : Sp) (E : St → XK) (ta : TE) (t : TA) : TE := fun σ H Q => ta σ H fun x H1 => ∃ a dx fs, x = .ref a ∧ H1 a = some (.ins C dx fs) ∧ fs.lookup m = none ∧
  t σ H1 fun vs H2 => sp (x :: vs) H2 Q (E σ)
theorem pe_hm {pl : Sem Bool} (h : HasM X.prog X.w X.K X.mg X.base C m k ps sp) (c : Cls X.K C) (hr : Room j X.A) (hx : ∀ σ, PassesAt (L2.CX X.prog X.w) X σ (E σ)) (ho : PE X o ta) (ha : PA X (e :: es) t) (hj : k ≤ j := by decide)
    (hst : starEach (e :: es) X.env = (false, eval e X.env) :: starEach es X.env := by rfl) (hpl : (backTo pos (starEach es X.env)).any (·.1) = false := by rfl)
    (ht : eval (.Call (.Attribute o m apos) (e :: es) [] pos) X.env = (do
      let ov ← eval o X.env
      standAt apos.atName
      let (f, first) ← holding [ov] (getMethod ov m pl)
      callWith pos f first (backTo pos (starEach (e :: es) X.env)) (backToKw pos (keywordEach [] X.env))) := by rfl) :
    PE X (.Call (.Attribute o m apos) (e :: es) [] pos) (tMethS C m sp E ta t) := by
  obtain ⟨f, fd, F, hm, hb⟩ := h
  refine ⟨fun pins s σ H Q I h => ?_⟩
  refine PySem.W.methodCall_KW (pl := pl) (thn (ho.run pins s σ H _ I h) fun u s1 ⟨x, H1, I1, rx, a, dx, fs, ex, ea, l, q⟩ => ?_) ht
  subst ex
  obtain rfl : u = Value.ref a := rx
  refine getmeth_ok I1 ea c hm l ?_
  refine PySem.W.callWith_K (first := [.ref a]) (h₀ := X.base) I.ok.mod.kin hm.kp (thn (ha.run pos pins s1 σ H1 _ I1 q) fun us s2 ⟨vs, H2, I2, r, q2⟩ => ⟨I2.kIn, ?_⟩) hst hpl
  exact run_fnS (us := .ref a :: us) (vs := .ref a :: vs) F (hr.mono hj) hb (hx σ) I2 (.cons rfl r) q2
theorem pe_hm0 {pl : Sem Bool} (h : HasM X.prog X.w X.K X.mg X.base C m k ps sp) (c : Cls X.K C) (hr : Room j X.A) (hx : ∀ σ, PassesAt (L2.CX X.prog X.w) X σ (E σ)) (ho : PE X o ta) (hj : k ≤ j := by decide)
    (ht : eval (.Call (.Attribute o m apos) [] [] pos) X.env = (do
      let ov ← eval o X.env
      standAt apos.atName
      let (f, first) ← holding [ov] (getMethod ov m pl)
      callWith pos f first (backTo pos (starEach [] X.env)) (backToKw pos (keywordEach [] X.env))) := by rfl) :
    PE X (.Call (.Attribute o m apos) [] [] pos) (tMethS C m sp E ta tNil) := by
  obtain ⟨f, fd, F, hm, hb⟩ := h
  refine ⟨fun pins s σ H Q I h => ?_⟩
  refine PySem.W.methodCall_KW (pl := pl) (thn (ho.run pins s σ H _ I h) fun u s1 ⟨x, H1, I1, rx, a, dx, fs, ex, ea, l, q⟩ => ?_) ht
  subst ex
  obtain rfl : u = Value.ref a := rx
  refine getmeth_ok I1 ea c hm l ?_
  exact PySem.W.callWith_K0 (first := [.ref a]) I1.kIn hm.kp (run_fnS (us := [.ref a]) (vs := [.ref a]) F (hr.mono hj) hb (hx σ) I1 (.cons rfl .nil) q)
end

/-! ### numbers of any size -/
/-- // by what is not 0, below 2 ^ 9000 in size -/
def CDivN9 (_ j : Int) : Prop := j ≠ 0 ∧ j.natAbs.log2 < 9000
section
variable {X : Cx}
theorem op_fdivV : OpR X (binaryOp .FloorDiv) (rI CDivN9 fun i j => .int (i.fdiv j)) := opI fun i j _ _ _ _ _ hc q =>
  floordiv_int hc.1 q (.inl (PyProof.noPylong_of_log2 hc.2))
end

/-! ### steps that walk a reading -/
section
variable {σ σ' : St} {H : Hp} {v x y : V} {i j : Int} {n : Nat} {b : Bool} {ta tb te : TE} {t u : TT} {ts us : TS} {r : R2} {D : Ends} {Q : VK} {QB : Bool → Hp → Prop} {QL : List V → Hp → Prop} {tl : TA}
theorem w_var (h : σ[n]? = some (some v)) (q : Q v H) : tVar n σ H Q := ⟨v, h, q⟩
theorem w_c (q : Q v H) : tC v σ H Q := q
theorem w_op (q : ta σ H fun x H1 => tb σ H1 fun y H2 => r x y H2 Q) : tOp r ta tb σ H Q := q
theorem w_un {r : V → Hp → VK → Prop} (q : ta σ H fun x H1 => r x H1 Q) : tUn r ta σ H Q := q
theorem w_I0 {g : Int → Int → V} (q : Q (g i j) H) : rI0 g (.int i) (.int j) H Q := ⟨i, j, rfl, rfl, q⟩
theorem w_I {C : Int → Int → Prop} {g : Int → Int → V} (c : C i j) (q : Q (g i j) H) : rI C g (.int i) (.int j) H Q := ⟨i, j, rfl, rfl, c, q⟩
theorem w_U {g : Int → V} (q : Q (g i) H) : rU g (.int i) H Q := ⟨i, rfl, q⟩
theorem w_eq (h : scal x y = true) (q : Q (.bl (decide (x = y))) H) : rEq x y H Q := ⟨h, q⟩
theorem w_ne (h : scal x y = true) (q : Q (.bl (!decide (x = y))) H) : rNe x y H Q := ⟨h, q⟩
theorem w_test (q : te σ H fun x H' => ∃ k, x = .bl k ∧ QB k H') : tTest te σ H QB := q
theorem w_B (q : te σ H fun x H' => ∃ k, x = .bl k ∧ QB k H') : tB te σ H QB := q
theorem w_bl (q : QB b H) : ∃ k, V.bl b = .bl k ∧ QB k H := ⟨b, rfl, q⟩
theorem w_and (q : t σ H fun c H1 => if c = true then u σ H1 QB else QB false H1) : tAnd t u σ H QB := q
theorem w_or (q : t σ H fun c H1 => if c = true then QB true H1 else u σ H1 QB) : tOr t u σ H QB := q
theorem w_not (q : t σ H fun c H1 => QB (!c) H1) : tNot t σ H QB := q
theorem w_andV (q : ta σ H fun x H1 => ∃ c, x = .bl c ∧ if c = true then tb σ H1 Q else Q (.bl false) H1) : tAndV ta tb σ H Q := q
theorem w_orV (q : ta σ H fun x H1 => ∃ c, x = .bl c ∧ if c = true then Q (.bl true) H1 else tb σ H1 Q) : tOrV ta tb σ H Q := q
theorem w_notV (q : ta σ H fun x H1 => ∃ c, x = .bl c ∧ Q (.bl (!c)) H1) : tNotV ta σ H Q := q
theorem w_blV {p : Bool → Prop} (q : p b) : ∃ c, V.bl b = .bl c ∧ p c := ⟨b, rfl, q⟩
theorem w_seq {nx bk ct : L2.St → Hp → Prop} {rt : VK} (q : ts ⟨us ⟨nx, rt, bk, ct⟩, rt, bk, ct⟩ σ H) : tSeq ts us ⟨nx, rt, bk, ct⟩ σ H := q
theorem w_next {nx bk ct : L2.St → Hp → Prop} {rt : VK} (q : nx σ H) : tNext ⟨nx, rt, bk, ct⟩ σ H := q
theorem w_asg {g : TG} {nx bk ct : L2.St → Hp → Prop} {rt : VK} (q : te σ H fun x H1 => g x σ H1 nx) : tAsg te g ⟨nx, rt, bk, ct⟩ σ H := q
theorem w_drop {nx bk ct : L2.St → Hp → Prop} {rt : VK} (q : te σ H fun _ H1 => nx σ H1) : tDrop te ⟨nx, rt, bk, ct⟩ σ H := q
theorem w_ret {nx bk ct : L2.St → Hp → Prop} {rt : VK} (q : te σ H rt) : tRet te ⟨nx, rt, bk, ct⟩ σ H := q
theorem w_if {c : TT} (q : c σ H fun b H1 => if b = true then ts D σ H1 else us D σ H1) : tIfS c ts us D σ H := q
theorem w_name {N : St → Hp → Prop} (h : σ.set n (some v) = σ') (q : N σ' H) : gName n v σ H N := by rw [← h] at q; exact q
theorem w_nil (q : QL [] H) : tNil σ H QL := q
theorem w_cons (q : te σ H fun x H1 => tl σ H1 fun xs H2 => QL (x :: xs) H2) : tCons te tl σ H QL := q
theorem w_T {A B : Prop} {c : Bool} (h : c = true) (q : A) : if c = true then A else B := by rw [h]; exact iteT q
theorem w_F {A B : Prop} {c : Bool} (h : c = false) (q : B) : if c = true then A else B := by rw [h]; exact iteF q
theorem w_ite {c A B : Prop} [Decidable c] (h1 : c → A) (h2 : ¬ c → B) : if decide c = true then A else B := by
  by_cases h : c
  · rw [decide_eq_true h]; exact iteT (h1 h)
  · rw [decide_eq_false h]; exact iteF (h2 h)
theorem w_call {sp : Sp} {E : St → XK} (q : tl σ H fun vs H1 => sp vs H1 Q (E σ)) : tCallS sp E tl σ H Q := q
theorem w_cb {r : List V → Hp → VK → Prop} (q : tl σ H fun vs H1 => r vs H1 Q) : tCB r tl σ H Q := q
theorem set0 {a0 : Option V} {l : St} : (a0 :: l).set 0 (some v) = some v :: l := rfl
theorem set1 {a0 a1 : Option V} {l : St} : (a0 :: a1 :: l).set 1 (some v) = a0 :: some v :: l := rfl
theorem set2 {a0 a1 a2 : Option V} {l : St} : (a0 :: a1 :: a2 :: l).set 2 (some v) = a0 :: a1 :: some v :: l := rfl
theorem set3 {a0 a1 a2 a3 : Option V} {l : St} : (a0 :: a1 :: a2 :: a3 :: l).set 3 (some v) = a0 :: a1 :: a2 :: some v :: l := rfl
theorem set4 {a0 a1 a2 a3 a4 : Option V} {l : St} : (a0 :: a1 :: a2 :: a3 :: a4 :: l).set 4 (some v) = a0 :: a1 :: a2 :: a3 :: some v :: l := rfl
theorem set5 {a0 a1 a2 a3 a4 a5 : Option V} {l : St} : (a0 :: a1 :: a2 :: a3 :: a4 :: a5 :: l).set 5 (some v) = a0 :: a1 :: a2 :: a3 :: a4 :: some v :: l := rfl
theorem set6 {a0 a1 a2 a3 a4 a5 a6 : Option V} {l : St} : (a0 :: a1 :: a2 :: a3 :: a4 :: a5 :: a6 :: l).set 6 (some v) = a0 :: a1 :: a2 :: a3 :: a4 :: a5 :: some v :: l := rfl
theorem set7 {a0 a1 a2 a3 a4 a5 a6 a7 : Option V} {l : St} : (a0 :: a1 :: a2 :: a3 :: a4 :: a5 :: a6 :: a7 :: l).set 7 (some v) = a0 :: a1 :: a2 :: a3 :: a4 :: a5 :: a6 :: some v :: l := rfl
theorem set8 {a0 a1 a2 a3 a4 a5 a6 a7 a8 : Option V} {l : St} : (a0 :: a1 :: a2 :: a3 :: a4 :: a5 :: a6 :: a7 :: a8 :: l).set 8 (some v) = a0 :: a1 :: a2 :: a3 :: a4 :: a5 :: a6 :: a7 :: some v :: l := rfl
theorem set9 {a0 a1 a2 a3 a4 a5 a6 a7 a8 a9 : Option V} {l : St} : (a0 :: a1 :: a2 :: a3 :: a4 :: a5 :: a6 :: a7 :: a8 :: a9 :: l).set 9 (some v) = a0 :: a1 :: a2 :: a3 :: a4 :: a5 :: a6 :: a7 :: a8 :: some v :: l := rfl
theorem set10 {a0 a1 a2 a3 a4 a5 a6 a7 a8 a9 a10 : Option V} {l : St} : (a0 :: a1 :: a2 :: a3 :: a4 :: a5 :: a6 :: a7 :: a8 :: a9 :: a10 :: l).set 10 (some v) = a0 :: a1 :: a2 :: a3 :: a4 :: a5 :: a6 :: a7 :: a8 :: a9 :: some v :: l := rfl
theorem set11 {a0 a1 a2 a3 a4 a5 a6 a7 a8 a9 a10 a11 : Option V} {l : St} : (a0 :: a1 :: a2 :: a3 :: a4 :: a5 :: a6 :: a7 :: a8 :: a9 :: a10 :: a11 :: l).set 11 (some v) = a0 :: a1 :: a2 :: a3 :: a4 :: a5 :: a6 :: a7 :: a8 :: a9 :: a10 :: some v :: l := rfl
theorem set12 {a0 a1 a2 a3 a4 a5 a6 a7 a8 a9 a10 a11 a12 : Option V} {l : St} : (a0 :: a1 :: a2 :: a3 :: a4 :: a5 :: a6 :: a7 :: a8 :: a9 :: a10 :: a11 :: a12 :: l).set 12 (some v) = a0 :: a1 :: a2 :: a3 :: a4 :: a5 :: a6 :: a7 :: a8 :: a9 :: a10 :: a11 :: some v :: l := rfl
theorem set13 {a0 a1 a2 a3 a4 a5 a6 a7 a8 a9 a10 a11 a12 a13 : Option V} {l : St} : (a0 :: a1 :: a2 :: a3 :: a4 :: a5 :: a6 :: a7 :: a8 :: a9 :: a10 :: a11 :: a12 :: a13 :: l).set 13 (some v) = a0 :: a1 :: a2 :: a3 :: a4 :: a5 :: a6 :: a7 :: a8 :: a9 :: a10 :: a11 :: a12 :: some v :: l := rfl
theorem set14 {a0 a1 a2 a3 a4 a5 a6 a7 a8 a9 a10 a11 a12 a13 a14 : Option V} {l : St} : (a0 :: a1 :: a2 :: a3 :: a4 :: a5 :: a6 :: a7 :: a8 :: a9 :: a10 :: a11 :: a12 :: a13 :: a14 :: l).set 14 (some v) = a0 :: a1 :: a2 :: a3 :: a4 :: a5 :: a6 :: a7 :: a8 :: a9 :: a10 :: a11 :: a12 :: a13 :: some v :: l := rfl
theorem set15 {a0 a1 a2 a3 a4 a5 a6 a7 a8 a9 a10 a11 a12 a13 a14 a15 : Option V} {l : St} : (a0 :: a1 :: a2 :: a3 :: a4 :: a5 :: a6 :: a7 :: a8 :: a9 :: a10 :: a11 :: a12 :: a13 :: a14 :: a15 :: l).set 15 (some v) = a0 :: a1 :: a2 :: a3 :: a4 :: a5 :: a6 :: a7 :: a8 :: a9 :: a10 :: a11 :: a12 :: a13 :: a14 :: some v :: l := rfl
theorem set16 {a0 a1 a2 a3 a4 a5 a6 a7 a8 a9 a10 a11 a12 a13 a14 a15 a16 : Option V} {l : St} : (a0 :: a1 :: a2 :: a3 :: a4 :: a5 :: a6 :: a7 :: a8 :: a9 :: a10 :: a11 :: a12 :: a13 :: a14 :: a15 :: a16 :: l).set 16 (some v) = a0 :: a1 :: a2 :: a3 :: a4 :: a5 :: a6 :: a7 :: a8 :: a9 :: a10 :: a11 :: a12 :: a13 :: a14 :: a15 :: some v :: l := rfl
theorem set17 {a0 a1 a2 a3 a4 a5 a6 a7 a8 a9 a10 a11 a12 a13 a14 a15 a16 a17 : Option V} {l : St} : (a0 :: a1 :: a2 :: a3 :: a4 :: a5 :: a6 :: a7 :: a8 :: a9 :: a10 :: a11 :: a12 :: a13 :: a14 :: a15 :: a16 :: a17 :: l).set 17 (some v) = a0 :: a1 :: a2 :: a3 :: a4 :: a5 :: a6 :: a7 :: a8 :: a9 :: a10 :: a11 :: a12 :: a13 :: a14 :: a15 :: a16 :: some v :: l := rfl
theorem set18 {a0 a1 a2 a3 a4 a5 a6 a7 a8 a9 a10 a11 a12 a13 a14 a15 a16 a17 a18 : Option V} {l : St} : (a0 :: a1 :: a2 :: a3 :: a4 :: a5 :: a6 :: a7 :: a8 :: a9 :: a10 :: a11 :: a12 :: a13 :: a14 :: a15 :: a16 :: a17 :: a18 :: l).set 18 (some v) = a0 :: a1 :: a2 :: a3 :: a4 :: a5 :: a6 :: a7 :: a8 :: a9 :: a10 :: a11 :: a12 :: a13 :: a14 :: a15 :: a16 :: a17 :: some v :: l := rfl
theorem set19 {a0 a1 a2 a3 a4 a5 a6 a7 a8 a9 a10 a11 a12 a13 a14 a15 a16 a17 a18 a19 : Option V} {l : St} : (a0 :: a1 :: a2 :: a3 :: a4 :: a5 :: a6 :: a7 :: a8 :: a9 :: a10 :: a11 :: a12 :: a13 :: a14 :: a15 :: a16 :: a17 :: a18 :: a19 :: l).set 19 (some v) = a0 :: a1 :: a2 :: a3 :: a4 :: a5 :: a6 :: a7 :: a8 :: a9 :: a10 :: a11 :: a12 :: a13 :: a14 :: a15 :: a16 :: a17 :: a18 :: some v :: l := rfl
theorem set20 {a0 a1 a2 a3 a4 a5 a6 a7 a8 a9 a10 a11 a12 a13 a14 a15 a16 a17 a18 a19 a20 : Option V} {l : St} : (a0 :: a1 :: a2 :: a3 :: a4 :: a5 :: a6 :: a7 :: a8 :: a9 :: a10 :: a11 :: a12 :: a13 :: a14 :: a15 :: a16 :: a17 :: a18 :: a19 :: a20 :: l).set 20 (some v) = a0 :: a1 :: a2 :: a3 :: a4 :: a5 :: a6 :: a7 :: a8 :: a9 :: a10 :: a11 :: a12 :: a13 :: a14 :: a15 :: a16 :: a17 :: a18 :: a19 :: some v :: l := rfl
theorem set21 {a0 a1 a2 a3 a4 a5 a6 a7 a8 a9 a10 a11 a12 a13 a14 a15 a16 a17 a18 a19 a20 a21 : Option V} {l : St} : (a0 :: a1 :: a2 :: a3 :: a4 :: a5 :: a6 :: a7 :: a8 :: a9 :: a10 :: a11 :: a12 :: a13 :: a14 :: a15 :: a16 :: a17 :: a18 :: a19 :: a20 :: a21 :: l).set 21 (some v) = a0 :: a1 :: a2 :: a3 :: a4 :: a5 :: a6 :: a7 :: a8 :: a9 :: a10 :: a11 :: a12 :: a13 :: a14 :: a15 :: a16 :: a17 :: a18 :: a19 :: a20 :: some v :: l := rfl
theorem set22 {a0 a1 a2 a3 a4 a5 a6 a7 a8 a9 a10 a11 a12 a13 a14 a15 a16 a17 a18 a19 a20 a21 a22 : Option V} {l : St} : (a0 :: a1 :: a2 :: a3 :: a4 :: a5 :: a6 :: a7 :: a8 :: a9 :: a10 :: a11 :: a12 :: a13 :: a14 :: a15 :: a16 :: a17 :: a18 :: a19 :: a20 :: a21 :: a22 :: l).set 22 (some v) = a0 :: a1 :: a2 :: a3 :: a4 :: a5 :: a6 :: a7 :: a8 :: a9 :: a10 :: a11 :: a12 :: a13 :: a14 :: a15 :: a16 :: a17 :: a18 :: a19 :: a20 :: a21 :: some v :: l := rfl
theorem set23 {a0 a1 a2 a3 a4 a5 a6 a7 a8 a9 a10 a11 a12 a13 a14 a15 a16 a17 a18 a19 a20 a21 a22 a23 : Option V} {l : St} : (a0 :: a1 :: a2 :: a3 :: a4 :: a5 :: a6 :: a7 :: a8 :: a9 :: a10 :: a11 :: a12 :: a13 :: a14 :: a15 :: a16 :: a17 :: a18 :: a19 :: a20 :: a21 :: a22 :: a23 :: l).set 23 (some v) = a0 :: a1 :: a2 :: a3 :: a4 :: a5 :: a6 :: a7 :: a8 :: a9 :: a10 :: a11 :: a12 :: a13 :: a14 :: a15 :: a16 :: a17 :: a18 :: a19 :: a20 :: a21 :: a22 :: some v :: l := rfl
end
end L2.My

/-! W1: own ==, reflected ==, own minus in front; gcd of three; raising an own error; is of bools. -/
namespace L2.My
open PySem PySem.Spec PyProof.Rows PySem.SeqAt
open AutoSeq1 (wpAny_loadPart')

/-! ### the type of a value that is known -/
section
variable {X : Cx} {pins : List (Addr × Obj)} {σ : St} {H : Hp} {s : Shared} {y : V} {u t : Value}
theorem looks_ty (I : Inv X pins σ H s) (ru : RelV y u) (ty : TyX X.K H y t) : PySem.W.Looks (model X.prog X.w) s.heap (typeOf u) t := by
  obtain ⟨P, Z, p, _⟩ := kit_of I ru ty
  exact Z.ty _ _ I.kIn p
end

/-! ### x op y by x's own def -/
section
variable {X : Cx} {C : Addr} {k j : Nat} {ps : List Str} {sp : Sp} {E : XK} {m : Str}
def rOwnC (K : PySem.W.Frag) (C : Addr) (sp : Sp) (E : XK) : R2 := fun x y H Q => ∃ a dx fs t, x = .ref a ∧ H a = some (.ins C dx fs) ∧ TyX K H y t ∧ PySem.W.notFirst K C t = true ∧ sp [x, y] H Q E
theorem op_ownC {op : CmpOp} (hop : ∀ a b, compareOp op a b = richCompare op a b) (h : HasM X.prog X.w X.K X.mg X.base C (cmpInfo op).2.1 k ps sp) (hr : Room j X.A) (hx : Passes (L2.CX X.prog X.w) X E) (hj : k ≤ j := by decide) :
    OpR X (compareOp op) (rOwnC X.K C sp E) := by
  obtain ⟨f, fd, Fo, hm, hb⟩ := h
  intro pins s σ H x y v u Q I rx ry hh
  obtain ⟨a, dx, fs, t, rfl, ha, ty, hn, q⟩ := hh
  cases (show v = Value.ref a from rx)
  obtain ⟨mA, O, _⟩ := ins_get I.hok ha
  obtain ⟨od, J, _⟩ := O.look
  have hb' := looks_ty I ry ty
  obtain ⟨m, hF⟩ := I.fr
  rw [hop]
  refine PySem.W.cmp_K (op := op) (tb := t) hr.units0 hF I.ok.mod.kin J hb' hn hm.at_ hm.fn ?_
  refine wpAny_mono (run_fn Fo (hr.mono hj) hb .nil hx I (.cons rx (.cons ry .nil)) q) (fun w s' z => ?_) fun _ _ x => x
  obtain ⟨z', H', I', rz, qz⟩ := z
  exact SlX.cmpback rz ⟨z', H', I', rz, qz⟩
theorem op_eqC (h : HasM X.prog X.w X.K X.mg X.base C "__eq__" k ps sp) (hr : Room j X.A) (hx : Passes (L2.CX X.prog X.w) X E) (hj : k ≤ j := by decide) :
    OpR X (compareOp .Eq) (rOwnC X.K C sp E) := op_ownC (fun _ _ => rfl) h hr hx hj

/-! ### an int or a bool == an instance: the instance's own def, turned about -/
theorem int_eq_declines_ins_int (b : Int) (u : Tok) (l C dx : Addr) :
    Meets (Builtin.«int.__eq__» ⟨[.int b u, .ref l], []⟩) (fun _ R s => s.heap.get? l = some (PySem.W.instObj C dx) ∧ R (.ok (.ret .notImplemented)) s) :=
  .of_wp fun prog w A R s h => by obtain ⟨hp, g, d, tk, os⟩ := s; obtain ⟨hl, h⟩ := h; wp_walk using wpAny_loadPart' hl, wpAny_load hl; exact ⟨_, rfl, h⟩
theorem int_eq_declines_ins_bool (b : Bool) (l C dx : Addr) :
    Meets (Builtin.«int.__eq__» ⟨[.bool b, .ref l], []⟩) (fun _ R s => s.heap.get? l = some (PySem.W.instObj C dx) ∧ R (.ok (.ret .notImplemented)) s) :=
  .of_wp fun prog w A R s h => by obtain ⟨hp, g, d, tk, os⟩ := s; obtain ⟨hl, h⟩ := h; wp_walk using wpAny_loadPart' hl, wpAny_load hl; exact ⟨_, rfl, h⟩

theorem rc_refl {prog : Program} {w : World} {A : Around} {E : Value → Shared → Prop} {s : Shared} {K : PySem.W.Frag} {x C f : Addr} {ox : Obj} {od : Option Obj} {b : Value} {T : String} {Q : Value → Shared → Prop} (hu : A.units < cLine) (X : K.In s.heap) (I : PySem.W.InstAt s.heap x ox C od)
    (hb : s.TypeIs b T) (hsub : PySem.W.subIn K (.ref C) (.type T) = some false) (hs : PySem.W.findIn K (.ref C) "__eq__" = some (some (.ref f))) (hf : PySem.W.isFn K (.ref f) = true)
    (hd : ∀ Q' : Option Value → Shared → Prop, Q' none s → wpAny (model prog w) A (tryCompare b "__eq__" (.ref x)) Q' E s)
    (h : wpAny (model prog w) A (call (.ref f) [.ref x, b]) (PySem.W.CmpBack Q) E s) : wpAny (model prog w) A (richCompare .Eq b (.ref x)) Q E s := by
  have one : wpAny (model prog w) A (tryCompare (.ref x) "__eq__" b) (fun r s' => ∃ v, r = some v ∧ Q v s') E s := by
    unfold tryCompare
    refine wpAny_bind (PySem.W.ifBound_K X I hs hf (wpAny_mono h (fun v s' hv => ?_) fun _ _ e => e))
    cases v <;> first | exact hv.elim | exact wpAny_pure ⟨_, rfl, hv⟩
  have ot : oneThing? .Eq b (.ref x) = none := hb.oneThing_none _ _
  have hne : (Value.type T != Value.ref C) = true := rfl
  unfold richCompare
  rw [ot]
  refine wpAny_holding (wpAny_bind (wpAny_cRoomFor hu ?_))
  refine wpAny_bind (wpAny_typeOf hb (wpAny_bind (I.type.here ?_)))
  simp only [hne, if_true]
  refine wpAny_bind ((PySem.W.looks_subIn X hsub).here ?_)
  simp only [cmpInfo, Bool.false_eq_true, if_false, Bool.not_false, if_true]
  refine wpAny_bind (hd _ ?_)
  refine wpAny_bind (wpAny_mono one (fun r s' z => ?_) fun _ _ e => e)
  obtain ⟨v, rfl, hq⟩ := z
  exact wpAny_pure hq

def rOwnR (K : PySem.W.Frag) (C : Addr) (sp : Sp) (E : XK) : R2 := fun x y H Q => ∃ a dx fs, y = .ref a ∧ H a = some (.ins C dx fs) ∧
  ((∃ i, x = .int i) ∧ PySem.W.subIn K (.ref C) (.type "int") = some false ∨ (∃ b, x = .bl b) ∧ PySem.W.subIn K (.ref C) (.type "bool") = some false) ∧ sp [y, x] H Q E
theorem op_eqR (h : HasM X.prog X.w X.K X.mg X.base C "__eq__" k ps sp) (hr : Room j X.A) (hx : Passes (L2.CX X.prog X.w) X E) (hj : k ≤ j := by decide) :
    OpR X (compareOp .Eq) (rOwnR X.K C sp E) := by
  obtain ⟨f, fd, Fo, hm, hb⟩ := h
  intro pins s σ H x y v u Q I rx ry hh
  obtain ⟨a, dx, fs, rfl, ha, hxx, q⟩ := hh
  cases (show u = Value.ref a from ry)
  obtain ⟨mA, O, _⟩ := ins_get I.hok ha
  obtain ⟨od, J, _⟩ := O.look
  have call_ : wpAny (model X.prog X.w) X.A (call (.ref f) [.ref a, v]) (PySem.W.CmpBack (EP X pins σ Q)) X.xe s := by
    refine wpAny_mono (run_fn Fo (hr.mono hj) hb .nil hx I (.cons ry (.cons rx .nil)) q) (fun w s' z => ?_) fun _ _ x => x
    obtain ⟨z', H', I', rz, qz⟩ := z
    exact SlX.cmpback rz ⟨z', H', I', rz, qz⟩
  rcases hxx with ⟨⟨i, rfl⟩, hsub⟩ | ⟨⟨b, rfl⟩, hsub⟩
  · obtain ⟨t, rfl⟩ := (show ∃ t, v = Value.int i t from rx)
    exact rc_refl hr.units0 I.kIn J (typeIs_int s i t) hsub hm.at_ hm.fn (fun Q' hq => wpAny_tryCompare_declines (typeIs_int s i t) F.slot_int_eq
      (call_meets F.slot_int_eq (typeIs_int s i t) F.entry_int_eq (F.args_int_eq_2 _ _) (int_eq_declines_ins_int i t a C dx) ⟨O.obj, rfl, hq⟩)) call_
  · cases (show v = Value.bool b from rx)
    exact rc_refl hr.units0 I.kIn J (show s.TypeIs (.bool b) "bool" from rfl) hsub hm.at_ hm.fn (fun Q' hq => wpAny_tryCompare_declines (show s.TypeIs (.bool b) "bool" from rfl) F.slot_bool_eq
      (call_meets F.slot_bool_eq rfl F.entry_int_eq (F.args_int_eq_2 _ _) (int_eq_declines_ins_bool b a C dx) ⟨O.obj, rfl, hq⟩)) call_

/-! ### -x by x's own def -/
def rOwnU (C : Addr) (sp : Sp) (E : XK) : V → Hp → VK → Prop := fun x H Q => ∃ a dx fs, x = .ref a ∧ H a = some (.ins C dx fs) ∧ sp [x] H Q E
theorem un_own (h : HasM X.prog X.w X.K X.mg X.base C "__neg__" k ps sp) (hr : Room j X.A) (hx : Passes (L2.CX X.prog X.w) X E) (hj : k ≤ j := by decide) :
    UnR X (unaryOp .USub) (rOwnU C sp E) := by
  obtain ⟨f, fd, Fo, hm, hb⟩ := h
  intro pins s σ H x v Q I rx hh
  obtain ⟨a, dx, fs, rfl, ha, q⟩ := hh
  cases (show v = Value.ref a from rx)
  obtain ⟨mA, O, _⟩ := ins_get I.hok ha
  obtain ⟨od, J, _⟩ := O.look
  obtain ⟨m, hF⟩ := I.fr
  exact PySem.W.ksp_neg hF I.ok.mod.kin J hm.at_ hm.fn (run_fn Fo (hr.mono hj) hb .nil hx I (.cons rx .nil) q)

/-! ### math.gcd of three -/
theorem args_gcd3 (a b c : Value) : argsOk "math.gcd" ⟨[a, b, c], []⟩ := by unfold argsOk; kernel_rfl
theorem mg_run_gcd3 (a : Int) (t : Tok) (b : Int) (u : Tok) (c : Int) (w : Tok) :
    Gives (Builtin.«math.gcd» ⟨[.int a t, .int b u, .int c w], []⟩) (.int ((((Nat.gcd 0 a.natAbs).gcd b.natAbs).gcd c.natAbs : Nat) : Int)) :=
  .of_wp fun M A E s Q h => by obtain ⟨hp, g, d, tk, os⟩ := s; wp_walk; exact ⟨_, rfl, h⟩
def rGcd3 : List V → Hp → VK → Prop := fun vs H Q => ∃ a b c : Int, vs = [.int a, .int b, .int c] ∧ Q (.int (((a.natAbs.gcd b.natAbs).gcd c.natAbs : Nat) : Int)) H
theorem cr_gcd3 : CallR X (.builtin "math.gcd") rGcd3 := by
  intro pins s σ H vs us Q I r h
  obtain ⟨a, b, c, rfl, q⟩ := h
  cases r with
  | cons ra r =>
    cases r with
    | cons rb r =>
      cases r with
      | cons rc r =>
        cases r
        obtain ⟨t, rfl⟩ := ra
        obtain ⟨u, rfl⟩ := rb
        obtain ⟨w, rfl⟩ := rc
        have g := mg_run_gcd3 a t b u c w
        rw [Nat.gcd_zero_left] at g
        exact call_function_meets PySem.W.MGF.kind_gcd PySem.W.MGF.plain_gcd PySem.W.MGF.entry_gcd (args_gcd3 _ _ _) g.meets ⟨.int _, H, I.tok _, ⟨_, rfl⟩, q⟩
end
end L2.My

/-! W2: where defs stand, what is known of things, Roots. -/
namespace L2.My
open PySem PySem.Spec PyProof.Rows
/-! ### where a def of the text stands behind the top -/
def AtF (K : PySem.W.Frag) (mg : Str → Option Value) (x qual : Str) (st : Stmt) (ps : List Str) : Prop := ∃ f fd, Fun K x qual st f fd ∧ Binds K fd ps [] ∧ mg x = some (.ref f)
def AtM (K : PySem.W.Frag) (C : Addr) (m qual : Str) (st : Stmt) (ps : List Str) : Prop := ∃ f fd, Fun K m qual st f fd ∧ Binds K fd ps [] ∧ Meth K C m f
def AtC (K : PySem.W.Frag) (mg : Str → Option Value) (x : Str) (C : Addr) (qual : Str) (st : Stmt) (ps : List Str) : Prop := ∃ f fd, Fun K "__init__" qual st f fd ∧ Binds K fd ps [] ∧ Mk K C f ∧ mg x = some (.ref C)
def AtX (K : PySem.W.Frag) (mg : Str → Option Value) (x : Str) (C : Addr) (qual : Str) (st : Stmt) (ps : List Str) : Prop := ∃ f fd, Fun K "__init__" qual st f fd ∧ Binds K fd ps [] ∧ mg x = some (.ref C) ∧
  PySem.W.findIn K (.ref C) "__init__" = some (some (.ref f)) ∧ PySem.W.typeIn K (.ref f) = some (.type "function")
section
variable {P : Program} {w : World} {K : PySem.W.Frag} {mg : Str → Option Value} {base : Heap} {x m qual : Str} {st : Stmt} {N ps : List Str} {k : Nat} {sp : Sp} {C : Addr}
abbrev BodyOk (P : Program) (w : World) (K : PySem.W.Frag) (mg : Str → Option Value) (base : Heap) (N : List Str) (qual : Str) (st : Stmt) (k : Nat) (sp : Sp) (f : Addr) : Prop :=
  ∀ (cdv : Value) (A : Around) (outer : List Env) (s : Shared) (H : Hp) (vs : List V) (Q : VK) (E : XK), Room k (A.deeper (envOfC qual (defScope st) s.heap.objs.size f cdv)) → sp vs H Q E →
    ∃ t, PSs (cxOf (L2.CX P w) P w K mg base N qual (defScope st) f cdv A outer s H E) (defBody st) t ∧ t { nx := fun _ H' => Q .non H', rt := Q } (start N vs) H
theorem AtF.ok (D : AtF K mg x qual st ps) (S : FnScope N ps (defScope st)) (len : ∀ vs H Q E, sp vs H Q E → vs.length = ps.length) (h : ∀ {f : Addr}, BodyOk P w K mg base N qual st k sp f) : Has P w K mg base x (k + 1) ps sp := by
  obtain ⟨f, fd, Fo, b, g⟩ := D
  exact ⟨f, fd, Fo.okX S len h, g, Fo.kp, b⟩
theorem AtM.ok (D : AtM K C m qual st ps) (S : FnScope N ps (defScope st)) (len : ∀ vs H Q E, sp vs H Q E → vs.length = ps.length) (h : ∀ {f : Addr}, BodyOk P w K mg base N qual st k sp f) : HasM P w K mg base C m (k + 1) ps sp := by
  obtain ⟨f, fd, Fo, b, g⟩ := D
  exact ⟨f, fd, Fo.okX S len h, g, b⟩
theorem AtC.ok (D : AtC K mg x C qual st ps) (S : FnScope N ps (defScope st)) (len : ∀ vs H Q E, sp vs H Q E → vs.length = ps.length) (h : ∀ {f : Addr}, BodyOk P w K mg base N qual st k sp f) : HasC P w K mg base x C (k + 1) ps sp := by
  obtain ⟨f, fd, Fo, b, g, h2⟩ := D
  exact ⟨f, fd, Fo.okX S len h, g, h2, b⟩
/-- an own error class that is made -/
def HasX (P : Program) (w : World) (K : PySem.W.Frag) (mg : Str → Option Value) (base : Heap) (x : Str) (C : Addr) (k : Nat) (ps : List Str) (sp : Sp) : Prop :=
  ∃ f fd, FnOk P w K mg base (L2.CX P w) k f fd ps sp ∧ mg x = some (.ref C) ∧ PySem.W.findIn K (.ref C) "__init__" = some (some (.ref f)) ∧ PySem.W.typeIn K (.ref f) = some (.type "function") ∧ Binds K fd ps []
theorem AtX.ok (D : AtX K mg x C qual st ps) (S : FnScope N ps (defScope st)) (len : ∀ vs H Q E, sp vs H Q E → vs.length = ps.length) (h : ∀ {f : Addr}, BodyOk P w K mg base N qual st k sp f) : HasX P w K mg base x C (k + 1) ps sp := by
  obtain ⟨f, fd, Fo, b, g, h2, h3⟩ := D
  exact ⟨f, fd, Fo.okX S len h, g, h2, h3, b⟩
end
/-- making an own error, to be raised -/
theorem pm_h {X : Cx} {x : Str} {C : Addr} {k j : Nat} {ps : List Str} {sp : Sp} {e : Expr} {es : List Expr} {ta : TA} {p pos : Pos} (T : OexC X.K C) (h : HasX X.prog X.w X.K X.mg X.base x C k ps sp) (hr : Room j X.A) (ha : PA X (e :: es) ta) (hj : k + 1 ≤ j := by decide) (hg : Gl X x := by rfl)
    (hdb : (x == ("__debug__" : Str)) = false := by decide) (he : starEach (e :: es) X.env = (false, eval e X.env) :: starEach es X.env := by rfl) (hpl : (backTo pos (starEach es X.env)).any (·.1) = false := by rfl) :
    PMk X (.Call (.Name x p) (e :: es) [] pos) (tMkO C sp [] ta) := by
  obtain ⟨f, fd, Fo, hm, iC, tI, hb⟩ := h
  exact pmk_oex T iC tI Fo (hr.mono hj) hb .nil passL hg hm ha hdb he hpl
/-! ### what is known of things -/
/-- what stands is as it was, but for the object at p -/
def SameX (p : Addr) (H H' : Hp) : Prop := ∀ b o, b ≠ p → H b = some o → H' b = some o
theorem Same.x {p : Addr} {H H' : Hp} (h : Same H H') : SameX p H H' := fun b o _ e => h b o e
theorem SameX.trans {p : Addr} {H H1 H2 : Hp} (a : SameX p H H1) (b : SameX p H1 H2) : SameX p H H2 := fun c o n e => b c o n (a c o n e)
theorem SameX.upd {p : Addr} {H H1 : Hp} {o : HO} (a : SameX p H H1) : SameX p H (upd H1 p o) := fun c u n e => by rw [upd_ne n]; exact a c u n e
theorem Same.new {H : Hp} {p : Addr} {o : HO} (h : H p = none) : Same H (upd H p o) := fun a u e => by rw [upd_ne (ne_of_none e h)]; exact e
def rootF (t r b : Int) : List (Str × V) := [("top", .int t), ("root", .int r), ("bottom", .int b)]
/-- a number as the package keeps it -/
def RootAt (c : Addr) (H : Hp) (v : V) (t r b : Int) : Prop := ∃ a dx, v = .ref a ∧ H a = some (.ins c dx (rootF t r b))
theorem RootAt.same {c : Addr} {H H' : Hp} {v : V} {t r b : Int} (h : RootAt c H v t r b) (s : Same H H') : RootAt c H' v t r b := by
  obtain ⟨a, dx, rfl, e⟩ := h
  exact ⟨a, dx, rfl, s _ _ e⟩
/-- a thing of a kind that is known -/
inductive Th (c : Addr) (H : Hp) : V → Prop
  | non : Th c H .non
  | bl (b : Bool) : Th c H (.bl b)
  | int (i : Int) : Th c H (.int i)
  | str (s : Str) : Th c H (.str s)
  | lst (a : Addr) (xs : List V) (e : H a = some (.lst xs)) : Th c H (.ref a)
  | tup (a : Addr) (xs : List V) (e : H a = some (.tup xs)) : Th c H (.ref a)
  | dK (a : Addr) (kvs : List (Key × V)) (e : H a = some (.dK kvs)) : Th c H (.ref a)
  | root (a dx : Addr) (t r b : Int) (e : H a = some (.ins c dx (rootF t r b))) : Th c H (.ref a)
theorem Th.same {c : Addr} {H H' : Hp} {v : V} (h : Th c H v) (s : Same H H') : Th c H' v := by
  cases h with
  | non => exact .non
  | bl b => exact .bl b
  | int i => exact .int i
  | str s => exact .str s
  | lst a xs e => exact .lst a xs (s _ _ e)
  | tup a xs e => exact .tup a xs (s _ _ e)
  | dK a xs e => exact .dK a xs (s _ _ e)
  | root a dx t r b e => exact .root a dx t r b (s _ _ e)
def isI : V → Bool
  | .int _ => true
  | _ => false
def isB : V → Bool
  | .bl _ => true
  | _ => false
def isC (c : Addr) (H : Hp) : V → Bool
  | .ref a => match H a with
    | some (.ins C _ _) => decide (C = c)
    | _ => false
  | _ => false
/-- what isinstance says of the kinds, for the class at C -/
structure KiT (K : PySem.W.Frag) (c : Addr) : Prop where
  ty : Cls K c
  ha : PySem.W.findIn K (.ref c) "__class__" = some (some (.builtin "object.__class__"))
  hn : PySem.W.specialIn K (.builtin "object.__class__") "__get__" = some (some (.builtin "getset_descriptor.__get__"))
  htk : PySem.W.takesIn K (.builtin "object.__class__") = some true
  hm : PySem.W.mroIn K c (.type "object") = some true
  i : PySem.W.kitOne K (.ref c) (.type "int") = some false
  b : PySem.W.kitOne K (.ref c) (.type "bool") = some false
  cc : PySem.W.kitOne K (.ref c) (.ref c) = some true
  k1 : PySem.W.kitOne K (.type "NoneType") (.ref c) = some false
  k2 : PySem.W.kitOne K (.type "bool") (.ref c) = some false
  k3 : PySem.W.kitOne K (.type "int") (.ref c) = some false
  k4 : PySem.W.kitOne K (.type "str") (.ref c) = some false
  k5 : PySem.W.kitOne K (.type "list") (.ref c) = some false
  k6 : PySem.W.kitOne K (.type "tuple") (.ref c) = some false
  k7 : PySem.W.kitOne K (.type "dict") (.ref c) = some false
  n1 : PySem.W.subIn K (.type "NoneType") (.ref c) = some false
  n2 : PySem.W.subIn K (.type "bool") (.ref c) = some false
  n3 : PySem.W.subIn K (.type "int") (.ref c) = some false
  n4 : PySem.W.subIn K (.type "str") (.ref c) = some false
  n5 : PySem.W.subIn K (.type "list") (.ref c) = some false
  n6 : PySem.W.subIn K (.type "tuple") (.ref c) = some false
  n7 : PySem.W.subIn K (.type "dict") (.ref c) = some false
  s1 : PySem.W.subIn K (.ref c) (.type "int") = some false
  s2 : PySem.W.subIn K (.ref c) (.type "bool") = some false
theorem Th.ty {K : PySem.W.Frag} {c : Addr} {H : Hp} {v : V} (h : Th c H v) (T : KiT K c) : ∃ t, TyX K H v t ∧ PySem.W.kitOne K t (.type "int") = some (isI v || isB v) ∧ PySem.W.kitOne K t (.type "bool") = some (isB v) ∧
    PySem.W.kitOne K t (.ref c) = some (isC c H v) ∧ PySem.W.notFirst K c t = true := by
  have nf : ∀ t, PySem.W.subIn K t (.ref c) = some false → PySem.W.notFirst K c t = true := fun t e => by
    unfold PySem.W.notFirst
    rw [e]
    simp
  have kb : ∀ (a b : String) (r : Bool), kitB a b = some r → PySem.W.kitOne K (.type a) (.type b) = some r := fun _ _ _ h => kit_ty h
  have ib : ∀ {a : Addr} {o : HO} (_ : H a = some o) (_ : ∀ C dx fs, o ≠ .ins C dx fs), isC c H (.ref a) = false := fun {a o} e n => by
    show (match H a with | some (.ins C _ _) => decide (C = c) | _ => false) = false
    rw [e]
    cases o <;> first | rfl | exact absurd rfl (n _ _ _)
  cases h with
  | non => exact ⟨_, .base .non, kb "NoneType" "int" false (by decide +kernel), kb "NoneType" "bool" false (by decide +kernel), T.k1, nf _ T.n1⟩
  | bl b => exact ⟨_, .base (.bl b), kb "bool" "int" true (by decide +kernel), kb "bool" "bool" true (by decide +kernel), T.k2, nf _ T.n2⟩
  | int i => exact ⟨_, .base (.int i), kb "int" "int" true (by decide +kernel), kb "int" "bool" false (by decide +kernel), T.k3, nf _ T.n3⟩
  | str s => exact ⟨_, .base (.str s), kb "str" "int" false (by decide +kernel), kb "str" "bool" false (by decide +kernel), T.k4, nf _ T.n4⟩
  | lst a xs e => exact ⟨_, .base (.lst e), kb "list" "int" false (by decide +kernel), kb "list" "bool" false (by decide +kernel), (by rw [ib e (by intros; intro q; cases q)]; exact T.k5), nf _ T.n5⟩
  | tup a xs e => exact ⟨_, .base (.tup e), kb "tuple" "int" false (by decide +kernel), kb "tuple" "bool" false (by decide +kernel), (by rw [ib e (by intros; intro q; cases q)]; exact T.k6), nf _ T.n6⟩
  | dK a xs e => exact ⟨_, .base (.dK e), kb "dict" "int" false (by decide +kernel), kb "dict" "bool" false (by decide +kernel), (by rw [ib e (by intros; intro q; cases q)]; exact T.k7), nf _ T.n7⟩
  | root a dx t r b e =>
    have ic : isC c H (.ref a) = true := by
      show (match H a with | some (.ins C _ _) => decide (C = c) | _ => false) = true
      rw [e]
      exact decide_eq_true rfl
    exact ⟨_, .base (.ins e T.ty T.ha T.hn T.htk T.hm), T.i, T.b, (by rw [ic]; exact T.cc), (by unfold PySem.W.notFirst; simp)⟩
theorem w_isi {K : PySem.W.Frag} {H : Hp} {x : V} {n : String} {t : Value} {b : Bool} {Q : VK} (ty : TyX K H x t) (k : PySem.W.kitOne K t (.type n) = some b) (q : Q (.bl b) H) : rIsi K [x, .ty n] H Q := ⟨x, .ty n, t, _, b, rfl, .ty n, ty, k, q⟩
theorem w_isiC {K : PySem.W.Frag} {H : Hp} {x : V} {c : Addr} {t : Value} {b : Bool} {Q : VK} (ty : TyX K H x t) (k : PySem.W.kitOne K t (.ref c) = some b) (q : Q (.bl b) H) : rIsi K [x, .ref c] H Q := ⟨x, .ref c, t, _, b, rfl, .own c, ty, k, q⟩

/-! ### more steps -/
section
variable {K : PySem.W.Frag} {σ : St} {H : Hp} {Q : VK} {te : TE} {tl : TA} {a : Addr} {xs : List V} {i : Int} {v : V}
theorem sz1000 {n : Nat} (h : n ≤ 1000) : n ≤ sizeLine := Nat.le_trans h (by decide)
theorem Same.upd_new {H H1 : Hp} {p : Addr} {o : HO} (s : Same H H1) (h : H1 p = none) : Same H (upd H1 p o) := s.trans (Same.new h)
/-- a new tuple, a new list: what is asked -/
def NewT (xs : List V) (H : Hp) (Q : VK) : Prop := xs.length ≤ sizeLine ∧ ∀ p, H p = none → Q (.ref p) (upd H p (.tup xs))
def NewL (xs : List V) (H : Hp) (Q : VK) : Prop := xs.length ≤ sizeLine ∧ ∀ p, H p = none → Q (.ref p) (upd H p (.lst xs))
theorem k_tup (hl : Nat.ble xs.length 1000 = true) (q : ∀ p H2, H p = none → Same H H2 → H2 p = some (.tup xs) → Q (.ref p) H2) : NewT xs H Q :=
  ⟨sz1000 (Nat.le_of_ble_eq_true hl), fun p hp => q p _ hp (Same.new hp) upd_same⟩
theorem k_lst (hl : Nat.ble xs.length 1000 = true) (q : ∀ p H2, H p = none → Same H H2 → H2 p = some (.lst xs) → Q (.ref p) H2) : NewL xs H Q :=
  ⟨sz1000 (Nat.le_of_ble_eq_true hl), fun p hp => q p _ hp (Same.new hp) upd_same⟩
theorem w_tup (q : tl σ H fun xs H1 => NewT xs H1 Q) : tTup tl σ H Q := q
theorem w_lst (q : tl σ H fun xs H1 => NewL xs H1 Q) : tLst tl σ H Q := q
theorem w_ixL (h : H a = some (.lst xs)) (e : atI xs i = some v) (q : Q v H) : rIx K (.ref a) (.int i) H Q := .inl ⟨a, xs, i, v, rfl, rfl, SqL.of h, e, q⟩
theorem w_ixT (h : H a = some (.tup xs)) (e : atI xs i = some v) (q : Q v H) : rIx K (.ref a) (.int i) H Q := .inr (.inl ⟨a, xs, i, v, rfl, rfl, SqT.of h, e, q⟩)
/-- a field of an instance: what is asked -/
def FldP (K : PySem.W.Frag) (f : Str) (x : V) (H : Hp) (Q : VK) : Prop := ∃ a C dx fs v, x = .ref a ∧ H a = some (.ins C dx fs) ∧ Cls K C ∧ NoAttr K C f ∧ fs.lookup f = some v ∧ Q v H
theorem w_fld {C dx : Addr} {fs : List (Str × V)} {f : Str} (h : H a = some (.ins C dx fs)) (hc : Cls K C) (hn : NoAttr K C f) (l : fs.lookup f = some v) (q : Q v H) : FldP K f (.ref a) H Q :=
  ⟨a, C, dx, fs, v, rfl, h, hc, hn, l, q⟩
theorem w_fldE {f : Str} (q : te σ H fun x H1 => FldP K f x H1 Q) : tFld K te f σ H Q := q
/-- a field stored: what is asked -/
def StoP (K : PySem.W.Frag) (f : Str) (y x : V) (H : Hp) (N : Hp → Prop) : Prop := ∃ a C dx fs, x = .ref a ∧ H a = some (.ins C dx fs) ∧ Cls K C ∧ NoAttr K C f ∧ fs.length < 1000 ∧ N (upd H a (.ins C dx (putF f y fs)))
theorem w_sto {C dx : Addr} {fs : List (Str × V)} {f : Str} {N : Hp → Prop} (h : H a = some (.ins C dx fs)) (hc : Cls K C) (hn : NoAttr K C f) (l : Nat.blt fs.length 1000 = true) (q : ∀ H', SameX a H H' → H' a = some (.ins C dx (putF f v fs)) → N H') : StoP K f v (.ref a) H N :=
  ⟨a, C, dx, fs, rfl, h, hc, hn, by simpa using l, q _ (SameX.upd fun _ _ _ e => e) upd_same⟩
theorem w_stoE {f : Str} {tv : TE} {nx bk ct : L2.St → Hp → Prop} {rt : VK} (q : tv σ H fun y H1 => te σ H1 fun x H2 => StoP K f y x H2 fun H3 => nx σ H3) : sFld K te tv f ⟨nx, rt, bk, ct⟩ σ H := q
theorem rf_top (t r b : Int) : (rootF t r b).lookup ("top" : Str) = some (.int t) := by simp [rootF, List.lookup]
theorem rf_root (t r b : Int) : (rootF t r b).lookup ("root" : Str) = some (.int r) := by
  have : (("root" : Str) == "top") = false := by decide +kernel
  simp [rootF, List.lookup, this]
theorem rf_bottom (t r b : Int) : (rootF t r b).lookup ("bottom" : Str) = some (.int b) := by
  have h1 : (("bottom" : Str) == "top") = false := by decide +kernel
  have h2 : (("bottom" : Str) == "root") = false := by decide +kernel
  simp [rootF, List.lookup, h1, h2]
theorem put_root (t r b : Int) : putF "bottom" (.int b) (putF "root" (.int r) (putF "top" (.int t) [])) = rootF t r b := by
  have h1 : ¬ (("top" : Str) = "root") := by decide +kernel
  have h2 : ¬ (("top" : Str) = "bottom") := by decide +kernel
  have h3 : ¬ (("root" : Str) = "bottom") := by decide +kernel
  simp [putF, rootF, h1, h2, h3]
theorem put1 (v : V) : putF "top" v [] = [(("top" : Str), v)] := rfl
theorem put2 (u v : V) : putF "root" v [(("top" : Str), u)] = [(("top" : Str), u), ("root", v)] := by
  have h1 : ¬ (("top" : Str) = "root") := by decide +kernel
  simp [putF, h1]
theorem put3 (t r b : Int) : putF "bottom" (.int b) [(("top" : Str), .int t), ("root", .int r)] = rootF t r b := by
  have h2 : ¬ (("top" : Str) = "bottom") := by decide +kernel
  have h3 : ¬ (("root" : Str) = "bottom") := by decide +kernel
  simp [putF, rootF, h2, h3]
theorem rf_eq {t r b t' r' b' : Int} : rootF t r b = rootF t' r' b' ↔ t = t' ∧ r = r' ∧ b = b' := by simp [rootF]
end
/-! ### loops and comprehensions: the thing that is walked is known -/
section
variable {K : PySem.W.Frag} {σ : St} {H : Hp} {Q : VK} {tl : TE} {ta : TA} {g : TG} {tb : TS} {D : Ends} {p : Addr} {xs : List V} {tt : TT} {te : TE} {ws : List Nat}
def ForT (K : PySem.W.Frag) (g : TG) (tb : TS) (D : Ends) (σ : St) (x : V) (H : Hp) : Prop := tFor (iTup K (tC x)) g tb D σ H
def ForL (K : PySem.W.Frag) (g : TG) (tb : TS) (D : Ends) (σ : St) (x : V) (H : Hp) : Prop := tFor (iList K (tC x)) g tb D σ H
def ForR (g : TG) (tb : TS) (D : Ends) (σ : St) (vs : List V) (H : Hp) : Prop := tFor (iRng1 fun _ H Q => Q vs H) g tb D σ H
def ForR2 (g : TG) (tb : TS) (D : Ends) (σ : St) (vs : List V) (H : Hp) : Prop := tFor (iRng2 fun _ H Q => Q vs H) g tb D σ H
def CompL (K : PySem.W.Frag) (g : TG) (tt : TT) (te : TE) (ws : List Nat) (σ : St) (x : V) (H : Hp) (Q : VK) : Prop := tLc (iList K (tC x)) g tt te ws σ H Q
def CompT (K : PySem.W.Frag) (g : TG) (tt : TT) (te : TE) (ws : List Nat) (σ : St) (x : V) (H : Hp) (Q : VK) : Prop := tLc (iTup K (tC x)) g tt te ws σ H Q
def CompR (g : TG) (tt : TT) (te : TE) (ws : List Nat) (σ : St) (vs : List V) (H : Hp) (Q : VK) : Prop := tLc (iRng1 fun _ H Q => Q vs H) g tt te ws σ H Q
theorem w_forT (q : tl σ H fun x H1 => ForT K g tb D σ x H1) : tFor (iTup K tl) g tb D σ H := q
theorem w_forL (q : tl σ H fun x H1 => ForL K g tb D σ x H1) : tFor (iList K tl) g tb D σ H := q
theorem w_forR (q : ta σ H fun vs H1 => ForR g tb D σ vs H1) : tFor (iRng1 ta) g tb D σ H := q
theorem w_forR2 (q : ta σ H fun vs H1 => ForR2 g tb D σ vs H1) : tFor (iRng2 ta) g tb D σ H := q
theorem w_lcL (q : tl σ H fun x H1 => CompL K g tt te ws σ x H1 Q) : tLc (iList K tl) g tt te ws σ H Q := q
theorem w_lcT (q : tl σ H fun x H1 => CompT K g tt te ws σ x H1 Q) : tLc (iTup K tl) g tt te ws σ H Q := q
theorem w_lcR (q : ta σ H fun vs H1 => CompR g tt te ws σ vs H1 Q) : tLc (iRng1 ta) g tt te ws σ H Q := q
theorem k_forT {nx bk ct : L2.St → Hp → Prop} {rt : VK} (Pv : Nat → St → Hp → Prop) (h : H p = some (.tup xs)) (h0 : Pv 0 σ H) (hl : ∀ i σ H, Pv i σ H → H p = some (.tup xs))
    (hs : ∀ i x σ H, xs[i]? = some x → Pv i σ H → g x σ H fun σ2 H2 => tb ⟨Pv (i + 1), rt, nx, Pv (i + 1)⟩ σ2 H2) (hd : ∀ σ H, Pv xs.length σ H → nx σ H) : ForT K g tb ⟨nx, rt, bk, ct⟩ σ (.ref p) H :=
  ⟨p, rfl, ⟨_, SqT.of h⟩, for_tup (xs := xs) Pv h0 (fun i σ H _ q => SqT.of (hl i σ H q)) hs hd⟩
theorem k_forL {nx bk ct : L2.St → Hp → Prop} {rt : VK} (Pv : Nat → St → Hp → Prop) (h : SqL K H p xs) (h0 : Pv 0 σ H) (hl : ∀ i σ H, Pv i σ H → SqL K H p xs)
    (hs : ∀ i x σ H, xs[i]? = some x → Pv i σ H → g x σ H fun σ2 H2 => tb ⟨Pv (i + 1), rt, nx, Pv (i + 1)⟩ σ2 H2) (hd : ∀ σ H, Pv xs.length σ H → nx σ H) : ForL K g tb ⟨nx, rt, bk, ct⟩ σ (.ref p) H :=
  ⟨p, rfl, ⟨_, h⟩, for_list (xs := xs) Pv h0 (fun i σ H _ q => hl i σ H q) hs hd⟩
theorem k_forR {nx bk ct : L2.St → Hp → Prop} {rt : VK} {n : Int} (Pv : Nat → St → Hp → Prop) (h1 : -(2 ^ 62) ≤ n) (h2 : n < 2 ^ 62) (h0 : Pv 0 σ H)
    (hs : ∀ i σ H, i < n.toNat → Pv i σ H → g (.int (0 + (i : Nat))) σ H fun σ2 H2 => tb ⟨Pv (i + 1), rt, nx, Pv (i + 1)⟩ σ2 H2) (hd : ∀ σ H, Pv n.toNat σ H → nx σ H) : ForR g tb ⟨nx, rt, bk, ct⟩ σ [.int n] H :=
  ⟨n, rfl, h1, h2, for_range (lo := 0) (n := n.toNat) Pv h0 hs hd⟩
theorem k_lcR {n : Int} (Pv : Nat → Addr → Hp → Prop) (h1 : -(2 ^ 62) ≤ n) (h2 : n < 2 ^ 62) (h0 : ∀ D, H D = none → Pv 0 D (upd H D (.lst [])))
    (hs : ∀ i D H, i < n.toNat → Pv i D H → g (.int (0 + (i : Nat))) (wipe σ ws) H fun σ2 H2 => wipe σ2 ws = wipe σ ws ∧ tt σ2 H2 fun b H3 =>
      if b = true then te σ2 H3 fun y H4 => ∃ acc, H4 D = some (.lst acc) ∧ acc.length < sizeLine ∧ Pv (i + 1) D (upd H4 D (.lst (acc ++ [y]))) else Pv (i + 1) D H3) (hd : ∀ D H, Pv n.toNat D H → Q (.ref D) H) : CompR g tt te ws σ [.int n] H Q :=
  ⟨n, rfl, h1, h2, fun D hD => lc_range (lo := 0) (n := n.toNat) (fun i H => Pv i D H) (h0 D hD) (fun i H hi q => hs i D H hi q) (fun H q => hd D H q)⟩
theorem k_lcL (Pv : Nat → Addr → Hp → Prop) (h : SqL K H p xs) (h0 : ∀ D, H D = none → Pv 0 D (upd H D (.lst []))) (hl : ∀ i D H, Pv i D H → SqL K H p xs)
    (hs : ∀ i x D H, xs[i]? = some x → Pv i D H → g x (wipe σ ws) H fun σ2 H2 => wipe σ2 ws = wipe σ ws ∧ tt σ2 H2 fun b H3 =>
      if b = true then te σ2 H3 fun y H4 => ∃ acc, H4 D = some (.lst acc) ∧ acc.length < sizeLine ∧ Pv (i + 1) D (upd H4 D (.lst (acc ++ [y]))) else Pv (i + 1) D H3) (hd : ∀ D H, Pv xs.length D H → Q (.ref D) H) : CompL K g tt te ws σ (.ref p) H Q :=
  ⟨p, rfl, ⟨_, h⟩, fun D hD => lc_list (xs := xs) (fun i H => Pv i D H) (h0 D hD) (fun i H _ q => hl i D H q) (fun i x H hx q => hs i x D H hx q) (fun H q => hd D H q)⟩
end
/-! ### instances made -/
/-- C(..): what is asked -/
def MkC (C : Addr) (sp : Sp) (E : XK) (vs : List V) (H : Hp) (Q : VK) : Prop := ∀ x dx, H x = none → H dx = none → dx ≠ x →
  sp (.ref x :: vs) (upd (upd H dx (.own x)) x (.ins C dx [])) (fun v H2 => v = .non ∧ Q (.ref x) H2) E
theorem w_mkC {C : Addr} {sp : Sp} {E : L2.St → XK} {tl : TA} {σ : L2.St} {H : Hp} {Q : VK} (q : tl σ H fun vs H1 => MkC C sp (E σ) vs H1 Q) : tMakeS C sp E tl σ H Q := q
/-- o.m(..): what is asked of o -/
def MethP (C : Addr) (m : Str) (x : V) (H : Hp) (N : Hp → Prop) : Prop := ∃ a dx fs, x = .ref a ∧ H a = some (.ins C dx fs) ∧ fs.lookup m = none ∧ N H
theorem w_meth {C : Addr} {m : Str} {sp : Sp} {E : L2.St → XK} {ta : TE} {tl : TA} {σ : L2.St} {H : Hp} {Q : VK} (q : ta σ H fun x H1 => MethP C m x H1 fun H2 => tl σ H2 fun vs H3 => sp (x :: vs) H3 Q (E σ)) : tMethS C m sp E ta tl σ H Q := q
theorem k_meth {C a dx : Addr} {m : Str} {fs : List (Str × V)} {H : Hp} {N : Hp → Prop} (h : H a = some (.ins C dx fs)) (l : fs.lookup m = none) (q : N H) : MethP C m (.ref a) H N := ⟨a, dx, fs, rfl, h, l, q⟩
theorem rf_none {t r b : Int} {m : Str} (h1 : (m == ("top" : Str)) = false) (h2 : (m == ("root" : Str)) = false) (h3 : (m == ("bottom" : Str)) = false) : (rootF t r b).lookup m = none := by simp [rootF, List.lookup, h1, h2, h3]
/-! ### own errors with one field -/
def spX (C : Addr) (f : Str) : Sp := fun vs H Q _ => ∃ (a : Addr) (v : V), vs = [.ref a, v] ∧ H a = some (exo a C none) ∧ ∀ d, H d = none → d ≠ a → Q .non (upd (upd H d (exd d [(f, v)])) a (exo a C (some d)))
/-- an own error made: what is asked -/
def MkOP (C : Addr) (sp : Sp) (vs : List V) (H : Hp) (Q : XK) : Prop := vs.length ≤ 1000 ∧ ∀ a, H a = none → sp (.ref a :: (vs ++ [])) (upd H a (exo a C none))
    (fun v H2 => v = .non ∧ ∃ (d : Addr) (fs : List (Str × V)), H2 a = some (exo a C (some d)) ∧ H2 d = some (exd d fs) ∧ H d = none ∧ Q (.ref C) (some d) (upd (del H2 a) d (.xd fs))) (fun _ _ _ => False)
theorem w_mkO {C : Addr} {sp : Sp} {tl : TA} {σ : St} {H : Hp} {Q : XK} (q : tl σ H fun vs H1 => MkOP C sp vs H1 Q) : tMkO C sp [] tl σ H Q := q
theorem k_mkO {C : Addr} {f : Str} {v : V} {H : Hp} {Q : XK} (h : ∀ d H2, H d = none → Same H H2 → H2 d = some (.xd [(f, v)]) → Q (.ref C) (some d) H2) : MkOP C (spX C f) [v] H Q := by
  refine ⟨by simp, fun a ha => ⟨a, v, rfl, upd_same, fun d hd hn => ⟨rfl, d, [(f, v)], upd_same, ?_, ?_, ?_⟩⟩⟩
  · rw [upd_ne hn, upd_same]
  · rw [upd_ne hn] at hd; exact hd
  · have hd' : H d = none := by rw [upd_ne hn] at hd; exact hd
    refine h d _ hd' (fun b o e => ?_) upd_same
    have n1 : b ≠ d := ne_of_none e hd'
    have n2 : b ≠ a := ne_of_none e ha
    rw [upd_ne n1, del_ne n2, upd_ne n2, upd_ne n1, upd_ne n2]
    exact e
end L2.My

/-! W3: built-ins by name, stores into lists, products, the state that laws draw from. -/
namespace L2.My
open PySem PySem.Spec PyProof.Rows
section
variable {X : Cx} {K : PySem.W.Frag} {σ : L2.St} {H : Hp} {Q : VK} {te : TE} {tl : TA} {a p : Addr} {xs : List V} {i j : Int} {v : V}
def rInt : List V → Hp → VK → Prop := fun vs H Q => (∃ i, vs = [.int i] ∧ Q (.int i) H) ∨ ∃ k, vs = [.bl k] ∧ Q (.int (if k then 1 else 0)) H
theorem cn_int : CallR X (.type "int") rInt := call_int1
theorem w_int (q : Q (.int i) H) : rInt [.int i] H Q := .inl ⟨i, rfl, q⟩
theorem w_intB {b : Bool} (q : Q (.int (if b then 1 else 0)) H) : rInt [.bl b] H Q := .inr ⟨b, rfl, q⟩
def rAbs : List V → Hp → VK → Prop := fun vs H Q => ∃ i, vs = [.int i] ∧ Q (.int (if i < 0 then -i else i)) H
theorem cn_abs : CallR X (.builtin "abs") rAbs := call_abs
theorem w_abs (q : Q (.int (i.natAbs : Int)) H) : rAbs [.int i] H Q := ⟨i, rfl, by
  have e : (if i < 0 then -i else i) = (i.natAbs : Int) := by split <;> omega
  rw [e]; exact q⟩
def rLen (K : PySem.W.Frag) : List V → Hp → VK → Prop := fun vs H Q => ∃ x n, vs = [x] ∧ LenV K x H n ∧ Q (.int n) H
theorem cn_len : CallR X (.builtin "len") (rLen X.K) := call_len
theorem w_lenL (h : SqL K H a xs) (q : Q (.int (xs.length : Nat)) H) : rLen K [.ref a] H Q := ⟨_, _, rfl, .inl ⟨_, h, rfl⟩, q⟩
theorem w_lenT (h : SqT K H a xs) (q : Q (.int (xs.length : Nat)) H) : rLen K [.ref a] H Q := ⟨_, _, rfl, .inr ⟨_, h, rfl⟩, q⟩
def rListOf (K : PySem.W.Frag) : List V → Hp → VK → Prop := fun vs H Q => ∃ p ys, vs = [.ref p] ∧ (SqL K H p ys ∨ SqT K H p ys) ∧ ∀ l, H l = none → Q (.ref l) (upd H l (.lst ys))
theorem cn_list : CallR X (.type "list") (rListOf X.K) := call_list_of
theorem w_listL (h : SqL K H a xs) (q : ∀ l H2, H l = none → Same H H2 → H2 l = some (.lst xs) → Q (.ref l) H2) : rListOf K [.ref a] H Q := ⟨a, xs, rfl, .inl h, fun l hl => q l _ hl (Same.new hl) upd_same⟩
theorem w_listT (h : SqT K H a xs) (q : ∀ l H2, H l = none → Same H H2 → H2 l = some (.lst xs) → Q (.ref l) H2) : rListOf K [.ref a] H Q := ⟨a, xs, rfl, .inr h, fun l hl => q l _ hl (Same.new hl) upd_same⟩
def NewD (H : Hp) (Q : VK) : Prop := ∀ p, H p = none → Q (.ref p) (upd H p (.dK []))
theorem w_dnew (q : NewD H Q) : tDNewK σ H Q := q
theorem k_dnew (q : ∀ p H2, H p = none → Same H H2 → H2 p = some (.dK []) → Q (.ref p) H2) : NewD H Q := fun p hp => q p _ hp (Same.new hp) upd_same
/-- a slice of a list -/
def SlP (r : V → Option Int → Option Int → Hp → VK → Prop) (x : V) (lo hi : Option Int) (H : Hp) (Q : VK) : Prop := r x lo hi H Q
theorem w_sl {r : V → Option Int → Option Int → Hp → VK → Prop} {t1 t2 : TO} (q : te σ H fun x H1 => t1 σ H1 fun l H2 => t2 σ H2 fun u H3 => SlP r x l u H3 Q) : tSl r te t1 t2 σ H Q := q
theorem k_slL {lo hi : Option Int} (h : SqL K H a xs) (q : ∀ l H2, H l = none → Same H H2 → H2 l = some (.lst (cutV xs lo hi)) → Q (.ref l) H2) : SlP (rSlL K) (.ref a) lo hi H Q := ⟨a, xs, rfl, h, fun l hl => q l _ hl (Same.new hl) upd_same⟩
theorem w_poN {QO : Option Int → Hp → Prop} (q : QO none H) : tNoPart σ H QO := q
theorem w_poS {QO : Option Int → Hp → Prop} (q : te σ H fun x H1 => ∃ i, x = .int i ∧ QO (some i) H1) : tPart te σ H QO := q
theorem w_exI {p : Int → Prop} (q : p i) : ∃ k, V.int i = .int k ∧ p k := ⟨i, rfl, q⟩
/-- xs[i] = v -/
theorem w_gsub {to ti : TE} {t : TSet} {N : L2.St → Hp → Prop} (q : to σ H fun o H1 => ti σ H1 fun i H2 => t o i v H2 fun H3 => N σ H3) : gSub to ti t v σ H N := q
theorem w_setL {N : Hp → Prop} {n : Nat} (h : H a = some (.lst xs)) (e : ixN xs.length i = some n) (q : ∀ H2, SameX a H H2 → H2 a = some (.lst (xs.set n v)) → N H2) : rSetL (.ref a) (.int i) v H N :=
  ⟨a, xs, i, n, rfl, rfl, h, e, q _ (SameX.upd fun _ _ _ e => e) upd_same⟩
theorem w_yes {QB : Bool → Hp → Prop} (q : QB true H) : tYes σ H QB := q
/-- ways meet behind a statement -/
theorem w_cut {ts us : TS} {nx bk ct : L2.St → Hp → Prop} {rt : VK} (Mid : L2.St → Hp → Prop) (h : ts ⟨Mid, rt, bk, ct⟩ σ H) (q : ∀ σ' H', Mid σ' H' → us ⟨nx, rt, bk, ct⟩ σ' H') : C8.tCut ts us ⟨nx, rt, bk, ct⟩ σ H := ⟨Mid, h, q⟩
theorem w_cutE {ts us : TS} {nx bk ct : L2.St → Hp → Prop} {rt : VK} {σ' : L2.St} {H' : Hp} (h : ts ⟨fun σ1 H1 => σ1 = σ' ∧ H1 = H', rt, bk, ct⟩ σ H) (q : us ⟨nx, rt, bk, ct⟩ σ' H') : C8.tCut ts us ⟨nx, rt, bk, ct⟩ σ H := ⟨_, h, fun _ _ e => by rw [e.1, e.2]; exact q⟩
/-- products: one factor is small, or both together are not too large -/
def CMulS (i j : Int) : Prop := (-18446744073709551616 < i ∧ i < 18446744073709551616) ∨ (-18446744073709551616 < j ∧ j < 18446744073709551616) ∨ CMulW i j
theorem op_mulS : OpR X (binaryOp .Mult) (rI CMulS fun i j => .int (i * j)) := opI fun _ _ _ _ _ _ _ hc q => by
  rcases hc with h | h | h
  · exact mul_int q (CMul.ok (.inl h))
  · exact mul_int q (CMul.ok (.inr h))
  · exact mul_int q h.ok
theorem atI_ints {ns : List Int} {k : Int} (h0 : 0 ≤ k) (h1 : k < (ns.length : Int)) : ∃ z, atI (ns.map V.int) k = some (.int z) := by
  obtain ⟨n, rfl⟩ := Int.eq_ofNat_of_zero_le h0
  have hn : n < ns.length := by omega
  exact ⟨ns[n], atI_nat (by simp [hn])⟩
theorem cut_ints (ns : List Int) (lo hi : Option Int) : ∃ ms : List Int, cutV (ns.map V.int) lo hi = ms.map V.int := by
  unfold cutV
  exact ⟨((ns.drop (HT.sIx (ns.map V.int).length 0 lo)).take (HT.sIx (ns.map V.int).length (ns.map V.int).length hi - HT.sIx (ns.map V.int).length 0 lo)), by rw [List.map_take, List.map_drop]⟩
/-- a number that is not too great; omega doesn't see into it -/
def Bd (x : Int) : Prop := x.natAbs < 2 ^ 8000
/-! ### data compared -/
theorem dp_ints : ∀ ns : List Int, DpAll K H (ns.map V.int) (ns.map PyData.int)
  | [] => .nil
  | n :: ns => .cons (.int n) (dp_ints ns)
theorem can_ints : ∀ ns : List Int, PyData.canLayAll0 (ns.map PyData.int) = true
  | [] => rfl
  | n :: ns => by simp only [List.map_cons, PyData.canLayAll0, PyData.canLay0, can_ints ns, Bool.and_self]
theorem depth_ints : ∀ ns : List Int, PyData.depthAll (ns.map PyData.int) = 0
  | [] => rfl
  | n :: ns => by simp only [List.map_cons, PyData.depthAll, PyData.depth, depth_ints ns]; rfl
theorem eqv_ints : ∀ ns ms : List Int, PyData.eqvAll (ns.map PyData.int) (ms.map PyData.int) = decide (ns = ms)
  | [], [] => rfl
  | [], _ :: _ => rfl
  | _ :: _, [] => rfl
  | n :: ns, m :: ms => by
    simp only [List.map_cons, PyData.eqvAll, PyData.eqv, eqv_ints ns ms, List.cons.injEq, Bool.decide_and]
    rfl
theorem shaped_ints (ns : List Int) : SeqAt.shaped (.tuple (ns.map PyData.int)) = true := by
  simp only [SeqAt.shaped, PyData.canLay0, can_ints, PyData.depth, depth_ints]; decide
theorem w_eqT {b : Addr} {ns ms : List Int} (h1 : H a = some (.tup (ns.map V.int))) (h2 : H b = some (.tup (ms.map V.int))) (q : Q (.bl (decide (ns = ms))) H) : rEqD K (.ref a) (.ref b) H Q :=
  ⟨.tuple (ns.map .int), .tuple (ms.map .int), .tup (SqT.of h1) (dp_ints ns), .tup (SqT.of h2) (dp_ints ms), shaped_ints _, shaped_ints _, by rw [PyData.eqv, eqv_ints]; exact q⟩
/-- == of plain things: data of any depth, dicts -/
def rEqU (K : PySem.W.Frag) : R2 := fun x y H Q => rEqD K x y H Q ∨ rEqDA x y H Q
theorem op_eqU (hu : X.A.units + 64 < cLine) : OpR X (compareOp .Eq) (rEqU X.K) := (op_eqD hu).or (op_eq_dictA (by omega))
/-- a thing that == finds equal to itself -/
inductive Selfy (H : Hp) : V → Prop
  | non : Selfy H .non
  | int (i : Int) : Selfy H (.int i)
  | str (s : Str) (h : SeqAt.shaped (.str s) = true) : Selfy H (.str s)
  | lst (a : Addr) (ns : List Int) (e : H a = some (.lst (ns.map V.int))) : Selfy H (.ref a)
  | tup (a : Addr) (ns : List Int) (e : H a = some (.tup (ns.map V.int))) : Selfy H (.ref a)
  | dK (a : Addr) (e : H a = some (.dK [])) : Selfy H (.ref a)
theorem shaped_intsL (ns : List Int) : SeqAt.shaped (.list (ns.map PyData.int)) = true := by
  simp only [SeqAt.shaped, PyData.canLay0, can_ints, PyData.depth, depth_ints]; decide
theorem w_eqSelf (h : Selfy H v) (q : Q (.bl true) H) : rEqU K v v H Q := by
  have go : ∀ d, Dp K H v d → SeqAt.shaped d = true → rEqU K v v H Q := fun d hd sd => .inl ⟨d, d, hd, hd, sd, sd, by rw [SeqAt.eqv_refl d (SeqAt.canLay_of_shaped sd)]; exact q⟩
  cases h with
  | non => exact go _ .non (by decide +kernel)
  | int i => exact go _ (.int i) rfl
  | str s h => exact go _ (.str s) h
  | lst a ns e => exact go _ (.lst (SqL.of e) (dp_ints ns)) (shaped_intsL ns)
  | tup a ns e => exact go _ (.tup (SqT.of e) (dp_ints ns)) (shaped_ints ns)
  | dK a e => exact .inr ⟨a, a, [], [], rfl, rfl, e, e, rfl, (fun _ h => nomatch h), q⟩
/-- a thing of the law's own: a kind that is known, and if it is no int, one that is found equal to itself -/
structure Odd (c : Addr) (H : Hp) (v : V) : Prop where
  th : Th c H v
  eq : isI v = false → (∃ b, v = .bl b) ∨ isB v = false ∧ Selfy H v
theorem Odd.sx {c p : Addr} {H H' : Hp} (h : Odd c H v) (h3 : ∀ a, v = .ref a → a ≠ p) (s : SameX p H H') : Odd c H' v := by
  obtain ⟨h1, h2⟩ := h
  refine ⟨?_, fun z => ?_⟩
  · cases h1 with
    | non => exact .non
    | bl b => exact .bl b
    | int i => exact .int i
    | str s => exact .str s
    | lst a xs e => exact .lst a xs (s _ _ (h3 a rfl) e)
    | tup a xs e => exact .tup a xs (s _ _ (h3 a rfl) e)
    | dK a xs e => exact .dK a xs (s _ _ (h3 a rfl) e)
    | root a dx t r b e => exact .root a dx t r b (s _ _ (h3 a rfl) e)
  · rcases h2 z with h | ⟨hb, h⟩
    · exact .inl h
    · refine .inr ⟨hb, ?_⟩
      cases h with
      | non => exact .non
      | int i => exact .int i
      | str s h => exact .str s h
      | lst a ns e => exact .lst a ns (s _ _ (h3 a rfl) e)
      | tup a ns e => exact .tup a ns (s _ _ (h3 a rfl) e)
      | dK a e => exact .dK a (s _ _ (h3 a rfl) e)
theorem Odd.int {c : Addr} (i : Int) : Odd c H (.int i) := ⟨.int i, fun e => by cases e⟩
theorem w_Tself {α : Type} [DecidableEq α] {x : α} {A B : Prop} (q : A) : if decide (x = x) = true then A else B := by rw [decide_eq_true rfl]; exact iteT q
theorem w_Fself {α : Type} [DecidableEq α] {x : α} {A B : Prop} (q : B) : if (!decide (x = x)) = true then A else B := by rw [decide_eq_true rfl]; exact iteF q
theorem w_isB {b c : Bool} (q : Q (.bl (decide (b = c))) H) : rIsB (.bl b) (.bl c) H Q := ⟨b, c, rfl, rfl, q⟩
/-- the state that a law draws from stands at p, its cells at q -/
def StA (H : Hp) (p q : Addr) : Prop := ∃ (ns : List Int) (at_ pend : Int), H p = some (.lst [.ref q, .int at_, .int pend]) ∧ H q = some (.lst (ns.map V.int)) ∧ q ≠ p ∧ 0 ≤ at_ ∧ 0 ≤ pend
theorem StA.same {H H' : Hp} {p q : Addr} (h : StA H p q) (s : Same H H') : StA H' p q := by
  obtain ⟨ns, at_, pend, h1, h2, h3⟩ := h
  exact ⟨ns, at_, pend, s _ _ h1, s _ _ h2, h3⟩
theorem sz_lt {n : Nat} (h : n < 1000) : n < sizeLine := Nat.lt_of_lt_of_le h (by decide)
/-- a new object is another one -/
theorem StA.new {H : Hp} {p q b : Addr} (h : StA H p q) (e : H b = none) : b ≠ p ∧ b ≠ q := by
  obtain ⟨ns, at_, pend, h1, h2, _⟩ := h
  exact ⟨fun z => (by rw [z, h1] at e; cases e), fun z => (by rw [z, h2] at e; cases e)⟩
/-- a change elsewhere -/
theorem StA.other {H : Hp} {p q b : Addr} {o : HO} (h : StA H p q) (n : b ≠ p ∧ b ≠ q) : StA (upd H b o) p q := by
  obtain ⟨ns, at_, pend, h1, h2, h3⟩ := h
  exact ⟨ns, at_, pend, by rw [upd_ne (Ne.symm n.1)]; exact h1, by rw [upd_ne (Ne.symm n.2)]; exact h2, h3⟩
theorem StA.otherX {H H' : Hp} {p q b : Addr} (h : StA H p q) (n : b ≠ p ∧ b ≠ q) (s : SameX b H H') : StA H' p q := by
  obtain ⟨ns, at_, pend, h1, h2, h3⟩ := h
  exact ⟨ns, at_, pend, s _ _ (Ne.symm n.1) h1, s _ _ (Ne.symm n.2) h2, h3⟩
/-- another object than the state -/
theorem StA.ne {H : Hp} {p q b : Addr} {o : HO} (h : StA H p q) (e : H b = some o) (n : ∀ xs, o ≠ .lst xs) : b ≠ p := by
  obtain ⟨ns, at_, pend, h1, _⟩ := h
  exact ne_of e h1 (n _)
/-- a comprehension over a range whose turns draw: ints of which P holds -/
theorem k_lcDraw {st sc : Addr} {n : Int} {ws : List Nat} {slot : Nat} {te : TE} {P : Int → Prop} (h1 : -(2 ^ 62) ≤ n) (h2 : n ≤ 500) (hs : StA H st sc)
    (hw : ∀ z, wipe ((wipe σ ws).set slot (some (.int z))) ws = wipe σ ws)
    (turn : ∀ z H', StA H' st sc → SameX st H H' → ∀ N : VK, (∀ y H2, P y → SameX st H' H2 → StA H2 st sc → N (.int y) H2) → te ((wipe σ ws).set slot (some (.int z))) H' N)
    (hd : ∀ (D : Addr) (H' : Hp) (ms : List Int), H' D = some (.lst (ms.map V.int)) → ms.length = n.toNat → (∀ z ∈ ms, P z) → D ≠ st ∧ D ≠ sc → StA H' st sc → SameX st H H' → Q (.ref D) H') : CompR (gName slot) tYes te ws σ [.int n] H Q := by
  refine k_lcR (fun i D H' => H D = none ∧ ∃ ms : List Int, H' D = some (.lst (ms.map V.int)) ∧ ms.length = i ∧ (∀ z ∈ ms, P z) ∧ (D ≠ st ∧ D ≠ sc) ∧ StA H' st sc ∧ SameX st H H') h1 (by omega) (fun D hD => ⟨hD, [], upd_same, rfl, (fun _ h => nomatch h), hs.new hD, hs.same (Same.new hD), Same.x (Same.new hD)⟩) ?_ ?_
  · rintro i D H' hi ⟨hD, ms, e1, e2, e3, e4, e5, e6⟩
    refine ⟨hw _, ?_⟩
    refine w_yes (w_T rfl ?_)
    refine turn _ H' e5 e6 _ fun y H2 py s2 st2 => ?_
    refine ⟨_, s2 _ _ e4.1 e1, by rw [List.length_map, e2]; exact sz_lt (by omega), hD, ms ++ [y], by rw [List.map_append]; exact upd_same, by rw [List.length_append, e2]; rfl, ?_, e4, st2.other e4, fun b o nb e => ?_⟩
    · intro m hm
      rcases List.mem_append.mp hm with h | h
      · exact e3 m h
      · obtain rfl : m = y := by simpa using h
        exact py
    · rw [upd_ne (ne_of_none e hD)]
      exact s2 _ _ nb (e6 _ _ nb e)
  · rintro D H' ⟨hD, ms, e1, e2, e3, e4, e5, e6⟩
    exact hd D H' ms e1 e2 e3 e4 e5 e6
/-- a comprehension over a list of ints, without draws: ints again -/
theorem k_lcInts {p : Addr} {ns : List Int} {ws : List Nat} {slot : Nat} {te : TE} {f : Int → Int} (h : SqL K H p (ns.map V.int)) (hl : ns.length ≤ 500)
    (hw : ∀ z, wipe ((wipe σ ws).set slot (some (.int z))) ws = wipe σ ws) (hsame : ∀ H', Same H H' → SqL K H' p (ns.map V.int))
    (turn : ∀ z H', z ∈ ns → Same H H' → ∀ N : VK, N (.int (f z)) H' → te ((wipe σ ws).set slot (some (.int z))) H' N)
    (hd : ∀ D H', H D = none → Same H H' → H' D = some (.lst ((ns.map f).map V.int)) → Q (.ref D) H') : CompL K (gName slot) tYes te ws σ (.ref p) H Q := by
  refine k_lcL (xs := ns.map V.int) (fun i D H' => H D = none ∧ Same H H' ∧ H' D = some (.lst (((ns.take i).map f).map V.int))) h (fun D hD => ⟨hD, Same.new hD, upd_same⟩) (fun i D H' e => hsame H' e.2.1) ?_ ?_
  · rintro i x D H' hx ⟨hD, s1, e1⟩
    have hi : i < ns.length := by
      have := (List.getElem?_eq_some_iff.mp hx).1
      rwa [List.length_map] at this
    obtain rfl : x = V.int ns[i] := by
      rw [List.getElem?_map, List.getElem?_eq_getElem hi] at hx
      exact (Option.some.inj hx).symm
    refine ⟨hw _, ?_⟩
    refine w_yes (w_T rfl ?_)
    refine turn _ H' (List.getElem_mem hi) s1 _ ?_
    refine ⟨_, e1, by rw [List.length_map, List.length_map, List.length_take]; exact sz_lt (by omega), hD, fun b o e => ?_, ?_⟩
    · rw [upd_ne (ne_of_none e hD)]
      exact s1 b o e
    · have e : ns.take (i + 1) = ns.take i ++ [ns[i]] := by rw [List.take_add_one, List.getElem?_eq_getElem hi]; rfl
      rw [upd_same, e, List.map_append, List.map_append]
      rfl
  · rintro D H' ⟨hD, s1, e1⟩
    rw [List.length_map, List.take_length] at e1
    exact hd D H' hD s1 e1
end
end L2.My

/-! W4: isinstance of a caught own error that bears a field. -/
namespace PySem.W
open PySem PySem.Spec PySem.Calls PyProof.Rows
section
variable {prog : Program} {w : World} {A : Around} {E : Value → Shared → Prop} {s : Shared} {K : Frag} {x D : Addr} {ox od : Obj}
/-- what the class of such an error says -/
structure XiC (K : Frag) (D : Addr) : Prop where
  hga : findIn K (.ref D) "__getattribute__" = some (some (.builtin "BaseException.__getattribute__"))
  hgt : findIn K (.ref D) "__getattr__" = some none
  hsub : subIn K (.ref D) (.type "BaseException") = some true
  hdct : hasDictIn K D = true
  ha : findIn K (.ref D) "__class__" = some (some (.builtin "object.__class__"))
  hn : specialIn K (.builtin "object.__class__") "__get__" = some (some (.builtin "getset_descriptor.__get__"))
  htk : takesIn K (.builtin "object.__class__") = some true
  hm : mroIn K D (.type "object") = some true
theorem xi_class {Q : Option Value → Shared → Prop} (T : XiC K D) (X : K.In s.heap) (I : InstAt s.heap x ox D (some od)) (h : Q (some (.ref D)) { s with toks := s.toks + 1 }) : wpAny (model prog w) A (getAttr? (.ref x) "__class__") Q E s := by
  have fnd : findObj K D (some od) "__class__" = some (.bind (.builtin "getset_descriptor.__get__") (.builtin "object.__class__")) := findObj_data (by obtain ⟨cd, hc, _⟩ := any_some T.hdct; rw [hc]; rfl) T.ha T.hn T.htk
  obtain ⟨hp, g, d, t, os⟩ := s
  have l0 := I.type (M := model prog w)
  have l1 := looks_findIn (M := model prog w) X T.hga
  have l2 := looks_findIn (M := model prog w) X T.hgt
  have l3 := looks_find (M := model prog w) X I fnd
  have sb : Looks (model prog w) hp (isInstance (.ref x) (.type "BaseException")) true := l0.andThen (looks_subIn X T.hsub)
  have n0 : (false && onTheHeap (Value.builtin "BaseException.__getattribute__")) = false := rfl
  have n2 : (Value.builtin "BaseException.__getattribute__" == Value.builtin "object.__getattribute__") = false := by decide +kernel
  have n1 : (onTheHeap (Value.ref D) && Value.builtin "BaseException.__getattribute__" == Value.builtin "object.__getattribute__") = false := by rw [n2]; rfl
  unfold getAttr? getAttrBy? getAttrBy
  refine wpAny_bind (wpAny_mkText (wpAny_bind (wpAny_attempt (wpAny_holding (wpAny_bind (l0.at (wpAny_bind (l1.at ?_))))))))
  dsimp only
  rw [n1, if_neg Bool.false_ne_true]
  unfold getAttrByItsOwn hookBefore
  refine wpAny_bind ?_
  rw [if_pos (show onTheHeap (Value.ref D) = true from rfl)]
  refine l2.at (wpAny_bind (wpAny_attempt (wpAny_holding ?_)))
  unfold callGetattribute
  rw [n0, if_neg Bool.false_ne_true]
  unfold boundAndCalled
  rw [PySem.F.excAttr_ValueError.ga.bind (.ref x)]
  refine wpAny_bind (wpAny_pure ?_)
  show wpAny _ _ (call (.builtin "BaseException.__getattribute__") [.ref x, .str "__class__" t]) _ _ _
  refine wpAny_call (codeAny_call_builtin PySem.F.excAttr_ValueError.ga.plain PySem.F.entry_bexc_ga ?_)
  refine @check_slot (model prog w) _ _ ⟨hp, g, d, t + 1, os⟩ "BaseException.__getattribute__" "BaseException" "__getattribute__" (.ref x) [.str "__class__" t] [] _ (by decide +kernel) (by decide +kernel) sb (PySem.F.args_bexc_ga (.ref x) (.str "__class__" t)) ?_
  unfold Builtin.«object.__getattribute__»
  refine wpAny_bind (wpAny_of_eq (a := ((Value.ref x : Value), [Value.str "__class__" t])) (by first | rfl | (simp only [slotArgs]; rfl)) ?_)
  refine wpAny_bind (wpAny_pure (wpAny_bind (l0.at (wpAny_bind (l3.at ?_)))))
  show wpAny _ _ (holding [Value.builtin "object.__class__"] (call (.builtin "getset_descriptor.__get__") [.builtin "object.__class__", .ref x, .ref D]) >>= ret) _ _ _
  refine wpAny_bind (wpAny_holding (wpAny_call (class_get (s := ⟨hp, g, d, t + 1, os⟩) (ox := ox) (od := some od) X I T.hm ?_)))
  refine wpAny_pure ?_
  show wpAny _ _ (handedOut (.ref D)) _ _ _
  rw [handedOut_of (v := .ref D) rfl]
  first
    | exact wpAny_pure (wpAny_pure h)
    | exact wpAny_pure h
    | exact wpAny_pure (wpAny_bind (wpAny_pure (wpAny_pure h)))
theorem xi_kitx (T : XiC K D) : KitX K (.ref x) (.ref D) (fun h => ∃ ox od, InstAt h x ox D (some od)) where
  ty := fun _ _ _ ⟨_, _, I⟩ => I.type
  it := fun _ _ X _ => by
    obtain ⟨cdD, hcD, _⟩ := any_some T.hdct
    unfold clsIn at hcD
    split at hcD
    · rename_i c' d' cd' sl' ho
      intro A' Q' E' s' k q
      unfold isType loadHead
      exact wpAny_bind (wpAny_loadPart (k _ _ (X _ _ ho)) (wpAny_pure q))
    · cases hcD
  ne := fun h tp dd its n sl X htp => by
    obtain ⟨cdD, hcD, _⟩ := any_some T.hdct
    refine Bool.eq_false_iff.mpr fun q => ?_
    have e : D = tp := Value.ref.inj (beq_iff_eq.mp q)
    subst e
    unfold clsIn at hcD
    split at hcD
    · rename_i c' d' cd' sl' ho
      have z := (X _ _ ho).symm.trans htp
      cases z
    · cases hcD
  ca := fun X ⟨_, _, I⟩ k => xi_class T X I k
end
end PySem.W
namespace L2.My
open PySem PySem.Spec PyProof.Rows
/-- isinstance(e, c), e the own error that the suite holds -/
def rIsX (K : PySem.W.Frag) (D a : Addr) (cls : Value) (d : Option Addr) : List V → Hp → VK → Prop := fun xs H Q => ∃ (c : V) (cv : Value) (b : Bool) (dd : Addr) (fs : List (Str × V)), xs = [.ref a, c] ∧ cls = .ref D ∧ d = some dd ∧ H dd = some (.xd fs) ∧
  (∀ u, RelV c u → u = cv) ∧ PySem.W.kitOne K (.ref D) cv = some b ∧ Q (.bl b) H
theorem cn_isX {X : Cx} {a D : Addr} {cls : Value} {d : Option Addr} {oe : Obj} {pn : List (Addr × Obj)} (T : PySem.W.XiC X.K D) (hz : Zc cls d oe) (hf : ∃ vs, oe.data = .fields vs) : CallR (X.suite a ((a, oe) :: pn)) (.builtin "isinstance") (rIsX X.K D a cls d) := by
  intro pins s σ H xs us Q I r h
  obtain ⟨c, cv, b, dd, fs, rfl, rfl, rfl, ea, hcv, e, q⟩ := h
  obtain ⟨u1, u2, rfl, r1, r2⟩ := vals2 r
  cases (show u1 = Value.ref a from r1)
  have ec := hcv _ r2
  subst ec
  obtain ⟨hget, _⟩ := I.pin (a, oe) (List.mem_append_left _ List.mem_cons_self)
  obtain ⟨vs, hd⟩ := hf
  obtain ⟨mA, hns, hr⟩ := (show ObjOk X.prog X.w H s.heap dd (.xd fs) from I.hok dd _ ea)
  obtain ⟨od, ho, hl⟩ := lookIn_ns hns
  have J : PySem.W.InstAt s.heap a oe D (some od) := ⟨hget, hz.1, by unfold PySem.W.notCls; rw [hd] <;> rfl, by rw [hz.2]; exact ho⟩
  exact PySem.W.kia_one (PySem.W.xi_kitx T) I.kIn ⟨oe, od, J⟩ e (fun z => nomatch z) fun tk => ⟨.bl b, H, I.tok tk, rfl, q⟩
theorem w_isX {K : PySem.W.Frag} {D a : Addr} {d : Addr} {fs : List (Str × V)} {H : Hp} {Q : VK} {b : Bool} {C : Addr} (h : H d = some (.xd fs)) (k : PySem.W.kitOne K (.ref D) (.ref C) = some b) (q : Q (.bl b) H) : rIsX K D a (.ref D) (some d) [.ref a, .ref C] H Q :=
  ⟨.ref C, .ref C, b, d, fs, rfl, rfl, rfl, h, fun u r => r, k, q⟩
theorem w_isXT {K : PySem.W.Frag} {D a : Addr} {d : Addr} {fs : List (Str × V)} {H : Hp} {Q : VK} {b : Bool} {n : String} (h : H d = some (.xd fs)) (k : PySem.W.kitOne K (.ref D) (.type n) = some b) (q : Q (.bl b) H) : rIsX K D a (.ref D) (some d) [.ref a, .ty n] H Q :=
  ⟨.ty n, .type n, b, d, fs, rfl, rfl, rfl, h, fun u r => r, k, q⟩
/-- e.f in the suite: what is asked -/
def XfP (a : Addr) (cls : Value) (d : Option Addr) (C : Addr) (f : Str) (x : V) (H : Hp) (Q : VK) : Prop := x = .ref a ∧ cls = .ref C ∧ ∃ (dd : Addr) (fs : List (Str × V)) (v : V), d = some dd ∧ H dd = some (.xd fs) ∧ fs.lookup f = some v ∧ Q v H
theorem w_xf {a : Addr} {cls : Value} {d : Option Addr} {C : Addr} {f : Str} {te : TE} {σ : L2.St} {H : Hp} {Q : VK} (q : te σ H fun x H1 => XfP a cls d C f x H1 Q) : tXf a cls d C f te σ H Q := q
theorem k_xf {a d C : Addr} {f : Str} {v : V} {H : Hp} {Q : VK} (h : H d = some (.xd [(f, v)])) (q : Q v H) : XfP a (.ref C) (some d) C f (.ref a) H Q := ⟨rfl, rfl, d, _, v, rfl, h, by simp [List.lookup], q⟩
end L2.My

/-! W5: from what the head tells to what the walks ask. -/
namespace L2.My
open PySem PySem.Spec PyProof.Rows
theorem kit_eq {K : PySem.W.Frag} {t : Value} {C : Addr} (ic : PySem.W.isClsIn K C = true) (tc : PySem.W.typeIn K (.ref C) = some (.type "type")) : PySem.W.kitCls K t (.ref C) = PySem.W.subIn K t (.ref C) := by
  have e : ((PySem.W.clsIn K C).isSome && PySem.W.typeIn K (.ref C) == some (.type "type")) = true := by
    have h2' : (PySem.W.clsIn K C).isSome = true := ic
    rw [h2', tc] <;> rfl
  show (if ((PySem.W.clsIn K C).isSome && PySem.W.typeIn K (.ref C) == some (.type "type")) = true then PySem.W.subIn K t (.ref C) else none) = _
  rw [if_pos e]
theorem kit_ref {K : PySem.W.Frag} {t : Value} {C : Addr} (ic : PySem.W.isClsIn K C = true) (tc : PySem.W.typeIn K (.ref C) = some (.type "type")) (h : PySem.W.subIn K t (.ref C) = some true) : PySem.W.kitOne K t (.ref C) = some true := by
  unfold PySem.W.kitOne
  rw [kit_eq ic tc, h]
  split <;> rfl
theorem kit_ref0 {K : PySem.W.Frag} {t : Value} {C : Addr} (ic : PySem.W.isClsIn K C = true) (tc : PySem.W.typeIn K (.ref C) = some (.type "type")) (h : PySem.W.subIn K t (.ref C) = some false) (hn : (t == .ref C) = false) : PySem.W.kitOne K t (.ref C) = some false := by
  unfold PySem.W.kitOne
  rw [kit_eq ic tc, h, hn]
  rfl
theorem kit_type {K : PySem.W.Frag} {C : Addr} {T : String} {b : Bool} (km : PySem.W.kitMeta T = true) (h : PySem.W.subIn K (.ref C) (.type T) = some b) : PySem.W.kitOne K (.ref C) (.type T) = some b := by
  unfold PySem.W.kitOne
  have e : ((Value.ref C) == Value.type T) = false := rfl
  rw [e, if_neg Bool.false_ne_true]
  show (if PySem.W.kitMeta T = true then PySem.W.subIn K (.ref C) (.type T) else none) = some b
  rw [if_pos km, h]
theorem exm_mk {K : PySem.W.Frag} {S : Addr} (h1 : PySem.W.subIn K (.ref S) (.type "BaseException") = some true) (h2 : PySem.W.isClsIn K S = true) (h3 : PySem.W.typeIn K (.ref S) = some (.type "type")) (h4 : PySem.W.subIn K (.ref S) (.ref S) = some true) :
    PySem.W.exmOne K (.ref S) (.ref S) = some true := by
  have e1 : (PySem.W.subIn K (.ref S) (.type "BaseException") == some true) = true := by rw [h1] <;> rfl
  show (if (PySem.W.subIn K (.ref S) (.type "BaseException") == some true) = true then PySem.W.kitCls K (.ref S) (.ref S) else none) = some true
  rw [if_pos e1, kit_eq h2 h3, h4]
theorem ki_mk {K : PySem.W.Frag} {c : Addr} (ty : Cls K c) (ha : PySem.W.findIn K (.ref c) "__class__" = some (some (.builtin "object.__class__"))) (hm : PySem.W.mroIn K c (.type "object") = some true)
    (ic : PySem.W.isClsIn K c = true) (tc : PySem.W.typeIn K (.ref c) = some (.type "type")) (s1 : PySem.W.mroIn K c (.type "int") = some false) (s2 : PySem.W.mroIn K c (.type "bool") = some false) : KiT K c where
  ty := ty
  ha := ha
  hn := rfl
  htk := rfl
  hm := hm
  i := kit_type (by decide +kernel) s1
  b := kit_type (by decide +kernel) s2
  cc := by
    unfold PySem.W.kitOne
    have e : ((Value.ref c) == Value.ref c) = true := by simp
    rw [e, if_pos rfl]
  k1 := kit_ref0 ic tc rfl rfl
  k2 := kit_ref0 ic tc rfl rfl
  k3 := kit_ref0 ic tc rfl rfl
  k4 := kit_ref0 ic tc rfl rfl
  k5 := kit_ref0 ic tc rfl rfl
  k6 := kit_ref0 ic tc rfl rfl
  k7 := kit_ref0 ic tc rfl rfl
  n1 := rfl
  n2 := rfl
  n3 := rfl
  n4 := rfl
  n5 := rfl
  n6 := rfl
  n7 := rfl
  s1 := s1
  s2 := s2
theorem ref_ne {K : PySem.W.Frag} {a b : Addr} (h1 : PySem.W.mroIn K a (.ref a) = some true) (h2 : PySem.W.mroIn K a (.ref b) = some false) : (Value.ref a == Value.ref b) = false := by
  cases e : (Value.ref a == Value.ref b) with
  | false => rfl
  | true =>
    have : Value.ref a = Value.ref b := by simpa using e
    cases this
    rw [h1] at h2
    cases h2
theorem cx_no {P : Program} {w : World} {H : Hp} {s s' : Shared} {e : Value} (z : L2.CX P w [] H s (fun _ _ _ => False) e s') : False := by
  obtain ⟨_, _, _, _, _, _, _, _, _, _, _, _, h⟩ := z
  exact h
end L2.My

/-! W6: own + - * of instances and ints, both ways. -/
namespace L2.My
open PySem PySem.Spec PyProof.Rows PySem.SeqAt
open AutoSeq1 (wpAny_loadPart')
/-! ### own + - * of two instances, of one and an int, and of an int and one -/
theorem int_add_declines (b : Int) (u : Tok) (l C dx : Addr) :
    Meets (Builtin.«int.__add__» ⟨[.int b u, .ref l], []⟩) (fun _ R s => s.heap.get? l = some (PySem.W.instObj C dx) ∧ R (.ok (.ret .notImplemented)) s) :=
  .of_wp fun prog w A R s h => by obtain ⟨hp, g, d, tk, os⟩ := s; obtain ⟨hl, h⟩ := h; wp_walk using wpAny_loadPart' hl, wpAny_load hl; exact ⟨_, rfl, h⟩
theorem int_sub_declines (b : Int) (u : Tok) (l C dx : Addr) :
    Meets (Builtin.«int.__sub__» ⟨[.int b u, .ref l], []⟩) (fun _ R s => s.heap.get? l = some (PySem.W.instObj C dx) ∧ R (.ok (.ret .notImplemented)) s) :=
  .of_wp fun prog w A R s h => by obtain ⟨hp, g, d, tk, os⟩ := s; obtain ⟨hl, h⟩ := h; wp_walk using wpAny_loadPart' hl, wpAny_load hl; exact ⟨_, rfl, h⟩
theorem int_mul_declines (b : Int) (u : Tok) (l C dx : Addr) :
    Meets (Builtin.«int.__mul__» ⟨[.int b u, .ref l], []⟩) (fun _ R s => s.heap.get? l = some (PySem.W.instObj C dx) ∧ R (.ok (.ret .notImplemented)) s) :=
  .of_wp fun prog w A R s h => by obtain ⟨hp, g, d, tk, os⟩ := s; obtain ⟨hl, h⟩ := h; wp_walk using wpAny_loadPart' hl, wpAny_load hl; exact ⟨_, rfl, h⟩

/-- int op instance: the instance's own reflected def -/
theorem bin_refl {prog : Program} {w : World} {A : Around} {E : Value → Shared → Prop} {s : Shared} {K : PySem.W.Frag} {x C f g : Addr} {ox : Obj} {od : Option Obj} {op : Operator} {b : Int} {t : Tok} {id : String} {Q : Value → Shared → Prop}
    (X : K.In s.heap) (I : PySem.W.InstAt s.heap x ox C od) (sf : PySem.W.selfFirst K C = true) (hsub : PySem.W.subIn K (.ref C) (.type "int") = some false)
    (hg : PySem.W.findIn K (.ref C) (PySem.dunder op.info.2) = some (some (.ref g))) (hs : PySem.W.findIn K (.ref C) (PySem.dunderR op.info.2) = some (some (.ref f))) (hf : PySem.W.isFn K (.ref f) = true)
    (fi : fillsNumberSlot (.type "int") op.info.2 = pure true) (sl : Slot "int" (PySem.dunder op.info.2) id)
    (hd : ∀ Q' : Value → Shared → Prop, Q' .notImplemented s → wpAny (model prog w) A (call (.builtin id) [.int b t, .ref x]) Q' E s)
    (h : wpAny (model prog w) A (call (.ref f) [.ref x, .int b t]) (PySem.W.CmpBack Q) E s) : wpAny (model prog w) A (binaryOp op (.int b t) (.ref x)) Q E s := by
  obtain ⟨cd, rest, e1, e2⟩ := PySem.W.ksp_first sf
  have fC : PySem.W.Looks (model prog w) s.heap (fillsNumberSlot (.ref C) op.info.2) true := PySem.W.fills_K X e1 e2 hg
  have hne : (Value.type "int" == Value.ref C) = false := rfl
  have ti : s.TypeIs (.int b t) "int" := typeIs_int s b t
  have one : wpAny (model prog w) A (binaryOp1 op.info.2 (.int b t) (.ref x)) (fun r s' => ∃ v, r = some v ∧ Q v s') E s := by
    unfold binaryOp1
    refine wpAny_bind (wpAny_typeOf ti (wpAny_bind (I.type.here ?_)))
    rw [fi]
    refine wpAny_bind (wpAny_pure ?_)
    simp only [hne, Bool.false_eq_true, if_false]
    refine wpAny_bind (fC.here ?_)
    simp only [Bool.and_self, if_true]
    refine wpAny_bind ((PySem.W.looks_subIn X hsub).here ?_)
    simp only [Bool.false_eq_true, if_false, Bool.and_self, Bool.not_false, if_true]
    refine wpAny_bind ?_
    show wpAny _ _ (pure false) _ _ _
    refine wpAny_pure ?_
    simp only [Bool.false_eq_true, if_false]
    refine wpAny_bind (wpAny_tryMethod_declines ti sl (hd _ ⟨rfl, ?_⟩))
    refine wpAny_bind (wpAny_mono (PySem.W.ksp_try X I hs hf h) (fun r s' z => ?_) fun _ _ e => e)
    obtain ⟨v, rfl, hq⟩ := z
    exact wpAny_bind (wpAny_rule (wpAny_pure ⟨_, rfl, hq⟩))
  unfold binaryOp
  refine wpAny_holding ?_
  refine wpAny_bind (wpAny_mono one (fun r s' z => ?_) fun _ _ e => e)
  obtain ⟨v, rfl, hq⟩ := z
  exact wpAny_pure hq
section
variable {X : Cx} {C : Addr} {k k' j : Nat} {ps ps' : List Str} {sp spr : Sp} {E : XK} {m mr : Str}
/-- x op y, where one of both is an instance of C and the other one an instance of C or an int -/
def rOwnB (C : Addr) (sp spr : Sp) (E : XK) : R2 := fun x y H Q =>
  (∃ a dx fs, x = .ref a ∧ H a = some (.ins C dx fs) ∧ ((∃ i, y = .int i) ∨ ∃ a' dx' fs', y = .ref a' ∧ H a' = some (.ins C dx' fs')) ∧ sp [x, y] H Q E) ∨
  (∃ i a dx fs, x = .int i ∧ y = .ref a ∧ H a = some (.ins C dx fs) ∧ spr [y, x] H Q E)
/-- what an own operator needs of the class -/
structure OwnB (K : PySem.W.Frag) (C : Addr) : Prop where
  sf : PySem.W.selfFirst K C = true
  si : PySem.W.subIn K (.ref C) (.type "int") = some false
theorem op_ownB {op : Operator} {id : String} {fo ro : Option Value} (T : OwnB X.K C) (fi : fillsNumberSlot (.type "int") op.info.2 = pure true) (sl : Slot "int" (PySem.dunder op.info.2) id)
    (ef : PySem.W.findIn X.K (.type "int") (PySem.dunder op.info.2) = some fo) (er : PySem.W.findIn X.K (.type "int") (PySem.dunderR op.info.2) = some ro)
    (hd : ∀ {A : Around} {s : Shared} {E' : Value → Shared → Prop} (b : Int) (t : Tok) (l dx : Addr) (Q' : Value → Shared → Prop), s.heap.get? l = some (PySem.W.instObj C dx) → Q' .notImplemented s → wpAny (model X.prog X.w) A (call (.builtin id) [.int b t, .ref l]) Q' E' s)
    (h : HasM X.prog X.w X.K X.mg X.base C (PySem.dunder op.info.2) k ps sp) (h' : HasM X.prog X.w X.K X.mg X.base C (PySem.dunderR op.info.2) k' ps' spr) (hr : Room j X.A) (hx : Passes (L2.CX X.prog X.w) X E) (hj : k ≤ j := by decide) (hj' : k' ≤ j := by decide) :
    OpR X (binaryOp op) (rOwnB C sp spr E) := by
  obtain ⟨f, fd, Fo, hm, hb⟩ := h
  obtain ⟨f', fd', Fo', hm', hb'⟩ := h'
  intro pins s σ H x y v u Q I rx ry hh
  obtain ⟨m, hF⟩ := I.fr
  rcases hh with ⟨a, dx, fs, rfl, ha, hy, q⟩ | ⟨i, a, dx, fs, rfl, rfl, ha, q⟩
  · cases (show v = Value.ref a from rx)
    obtain ⟨mA, O, _⟩ := ins_get I.hok ha
    obtain ⟨od, J, _⟩ := O.look
    have cl : wpAny (model X.prog X.w) X.A (call (.ref f) [.ref a, u]) (PySem.W.CmpBack (EP X pins σ Q)) X.xe s := by
      refine wpAny_mono (run_fn Fo (hr.mono hj) hb .nil hx I (.cons rx (.cons ry .nil)) q) (fun w s' z => ?_) fun _ _ x => x
      obtain ⟨z', H', I', rz, qz⟩ := z
      exact SlX.cmpback rz ⟨z', H', I', rz, qz⟩
    rcases hy with ⟨i, rfl⟩ | ⟨a', dx', fs', rfl, ha'⟩
    · obtain ⟨t, rfl⟩ := (show ∃ t, u = Value.int i t from ry)
      exact PySem.W.ksp_binT hF I.ok.mod.kin J rfl T.sf hm.at_ hm.fn hm'.at_ (.inr ⟨_, rfl⟩) ef er rfl cl
    · cases (show u = Value.ref a' from ry)
      obtain ⟨mA', O', _⟩ := ins_get I.hok ha'
      obtain ⟨od', J', _⟩ := O'.look
      exact PySem.W.binop_K hF I.ok.mod.kin J J'.type T.sf hm.at_ hm.fn cl
  · obtain ⟨t, rfl⟩ := (show ∃ t, v = Value.int i t from rx)
    cases (show u = Value.ref a from ry)
    obtain ⟨mA, O, _⟩ := ins_get I.hok ha
    obtain ⟨od, J, _⟩ := O.look
    refine bin_refl I.kIn J T.sf T.si hm.at_ hm'.at_ hm'.fn fi sl (fun Q' hq => hd i t a dx Q' O.obj hq) ?_
    refine wpAny_mono (run_fn Fo' (hr.mono hj') hb' .nil hx I (.cons ry (.cons rx .nil)) q) (fun w s' z => ?_) fun _ _ x => x
    obtain ⟨z', H', I', rz, qz⟩ := z
    exact SlX.cmpback rz ⟨z', H', I', rz, qz⟩
theorem op_addB (T : OwnB X.K C) (h : HasM X.prog X.w X.K X.mg X.base C "__add__" k ps sp) (h' : HasM X.prog X.w X.K X.mg X.base C "__radd__" k' ps' spr) (hr : Room j X.A) (hx : Passes (L2.CX X.prog X.w) X E) (hj : k ≤ j := by decide) (hj' : k' ≤ j := by decide) :
    OpR X (binaryOp .Add) (rOwnB C sp spr E) :=
  op_ownB (op := .Add) T F.fills_int_add F.slot_int_add rfl rfl (fun b t l dx Q' hl hq => call_meets F.slot_int_add (typeIs_int _ b t) F.entry_int_add (F.args_int_add_2 _ _) (int_add_declines b t l C dx) ⟨hl, hq⟩) h h' hr hx hj hj'
theorem op_subB (T : OwnB X.K C) (h : HasM X.prog X.w X.K X.mg X.base C "__sub__" k ps sp) (h' : HasM X.prog X.w X.K X.mg X.base C "__rsub__" k' ps' spr) (hr : Room j X.A) (hx : Passes (L2.CX X.prog X.w) X E) (hj : k ≤ j := by decide) (hj' : k' ≤ j := by decide) :
    OpR X (binaryOp .Sub) (rOwnB C sp spr E) :=
  op_ownB (op := .Sub) T F.fills_int_sub F.slot_int_sub rfl rfl (fun b t l dx Q' hl hq => call_meets F.slot_int_sub (typeIs_int _ b t) F.entry_int_sub (by first | exact F.args_int_sub_2 _ _ | (unfold argsOk; kernel_rfl)) (int_sub_declines b t l C dx) ⟨hl, hq⟩) h h' hr hx hj hj'
theorem op_mulB (T : OwnB X.K C) (h : HasM X.prog X.w X.K X.mg X.base C "__mul__" k ps sp) (h' : HasM X.prog X.w X.K X.mg X.base C "__rmul__" k' ps' spr) (hr : Room j X.A) (hx : Passes (L2.CX X.prog X.w) X E) (hj : k ≤ j := by decide) (hj' : k' ≤ j := by decide) :
    OpR X (binaryOp .Mult) (rOwnB C sp spr E) :=
  op_ownB (op := .Mult) T F.fills_int_mul F.slot_int_mul rfl rfl (fun b t l dx Q' hl hq => call_meets F.slot_int_mul (typeIs_int _ b t) F.entry_int_mul (F.args_int_mul_2 _ _) (int_mul_declines b t l C dx) ⟨hl, hq⟩) h h' hr hx hj hj'
/-- x op y, where x is an instance of C and y is one or an int -/
def rOwnL (C : Addr) (sp : Sp) (E : XK) : R2 := fun x y H Q =>
  ∃ a dx fs, x = .ref a ∧ H a = some (.ins C dx fs) ∧ ((∃ i, y = .int i) ∨ ∃ a' dx' fs', y = .ref a' ∧ H a' = some (.ins C dx' fs')) ∧ sp [x, y] H Q E
theorem op_ownL {op : Operator} {fo ro : Option Value} (T : OwnB X.K C) (hrc : ∃ g, PySem.W.findIn X.K (.ref C) (PySem.dunderR op.info.2) = some (some (.ref g)))
    (ef : PySem.W.findIn X.K (.type "int") (PySem.dunder op.info.2) = some fo) (er : PySem.W.findIn X.K (.type "int") (PySem.dunderR op.info.2) = some ro)
    (h : HasM X.prog X.w X.K X.mg X.base C (PySem.dunder op.info.2) k ps sp) (hr : Room j X.A) (hx : Passes (L2.CX X.prog X.w) X E) (hj : k ≤ j := by decide) :
    OpR X (binaryOp op) (rOwnL C sp E) := by
  obtain ⟨f, fd, Fo, hm, hb⟩ := h
  obtain ⟨g, hg⟩ := hrc
  intro pins s σ H x y v u Q I rx ry hh
  obtain ⟨m, hF⟩ := I.fr
  obtain ⟨a, dx, fs, rfl, ha, hy, q⟩ := hh
  cases (show v = Value.ref a from rx)
  obtain ⟨mA, O, _⟩ := ins_get I.hok ha
  obtain ⟨od, J, _⟩ := O.look
  have cl : wpAny (model X.prog X.w) X.A (call (.ref f) [.ref a, u]) (PySem.W.CmpBack (EP X pins σ Q)) X.xe s := by
    refine wpAny_mono (run_fn Fo (hr.mono hj) hb .nil hx I (.cons rx (.cons ry .nil)) q) (fun w s' z => ?_) fun _ _ x => x
    obtain ⟨z', H', I', rz, qz⟩ := z
    exact SlX.cmpback rz ⟨z', H', I', rz, qz⟩
  rcases hy with ⟨i, rfl⟩ | ⟨a', dx', fs', rfl, ha'⟩
  · obtain ⟨t, rfl⟩ := (show ∃ t, u = Value.int i t from ry)
    exact PySem.W.ksp_binT hF I.ok.mod.kin J rfl T.sf hm.at_ hm.fn hg (.inr ⟨_, rfl⟩) ef er rfl cl
  · cases (show u = Value.ref a' from ry)
    obtain ⟨mA', O', _⟩ := ins_get I.hok ha'
    obtain ⟨od', J', _⟩ := O'.look
    exact PySem.W.binop_K hF I.ok.mod.kin J J'.type T.sf hm.at_ hm.fn cl
theorem op_addL (T : OwnB X.K C) (hrc : ∃ g, PySem.W.findIn X.K (.ref C) "__radd__" = some (some (.ref g))) (h : HasM X.prog X.w X.K X.mg X.base C "__add__" k ps sp) (hr : Room j X.A) (hx : Passes (L2.CX X.prog X.w) X E) (hj : k ≤ j := by decide) :
    OpR X (binaryOp .Add) (rOwnL C sp E) := op_ownL (op := .Add) T hrc rfl rfl h hr hx hj
theorem op_subL (T : OwnB X.K C) (hrc : ∃ g, PySem.W.findIn X.K (.ref C) "__rsub__" = some (some (.ref g))) (h : HasM X.prog X.w X.K X.mg X.base C "__sub__" k ps sp) (hr : Room j X.A) (hx : Passes (L2.CX X.prog X.w) X E) (hj : k ≤ j := by decide) :
    OpR X (binaryOp .Sub) (rOwnL C sp E) := op_ownL (op := .Sub) T hrc rfl rfl h hr hx hj
theorem op_mulL (T : OwnB X.K C) (hrc : ∃ g, PySem.W.findIn X.K (.ref C) "__rmul__" = some (some (.ref g))) (h : HasM X.prog X.w X.K X.mg X.base C "__mul__" k ps sp) (hr : Room j X.A) (hx : Passes (L2.CX X.prog X.w) X E) (hj : k ≤ j := by decide) :
    OpR X (binaryOp .Mult) (rOwnL C sp E) := op_ownL (op := .Mult) T hrc rfl rfl h hr hx hj
end
theorem w_ifx {t : TT} {ta tb : TE} {σ : L2.St} {H : Hp} {Q : VK} (q : t σ H fun c H1 => if c = true then ta σ H1 Q else tb σ H1 Q) : tIf t ta tb σ H Q := q
theorem w_truB {K : PySem.W.Frag} {b : Bool} {H : Hp} {Q : Bool → Hp → Prop} (q : Q b H) : ∃ k, TruV K (.bl b) H k ∧ Q k H := ⟨b, rfl, q⟩
theorem w_truI {K : PySem.W.Frag} {i : Int} {H : Hp} {Q : Bool → Hp → Prop} (q : Q (i != 0) H) : ∃ k, TruV K (.int i) H k ∧ Q k H := ⟨_, rfl, q⟩
/-! ### numbers that are not too great -/
def Bw (n : Nat) (x : Int) : Prop := x.natAbs < 2 ^ n
theorem Bw.mul {m n : Nat} {x y : Int} (hx : Bw m x) (hy : Bw n y) : Bw (m + n) (x * y) := by
  unfold Bw at *
  rw [Int.natAbs_mul, Nat.pow_add]
  exact Nat.mul_lt_mul'' hx hy
theorem Bw.mono {m n : Nat} {x : Int} (hx : Bw m x) (h : m ≤ n) : Bw n x := Nat.lt_of_lt_of_le hx (Nat.pow_le_pow_right (by decide) h)
theorem Bw.add {m n : Nat} {x y : Int} (hx : Bw m x) (hy : Bw n y) : Bw (max m n + 1) (x + y) := by
  have h1 := hx.mono (Nat.le_max_left m n)
  have h2 := hy.mono (Nat.le_max_right m n)
  unfold Bw at *
  rw [Nat.pow_succ]
  have := Int.natAbs_add_le x y
  omega
theorem Bw.neg {m : Nat} {x : Int} (hx : Bw m x) : Bw m (-x) := by unfold Bw at *; rw [Int.natAbs_neg]; exact hx
theorem Bw.sub {m n : Nat} {x y : Int} (hx : Bw m x) (hy : Bw n y) : Bw (max m n + 1) (x - y) := by rw [Int.sub_eq_add_neg]; exact hx.add hy.neg
theorem Bw.two : Bw 2 2 := by unfold Bw; decide
theorem Bw.zero : Bw 1 0 := by unfold Bw; decide
theorem Bw.one : Bw 1 1 := by unfold Bw; decide
theorem Bw.bd {n : Nat} {x : Int} (h : Bw n x) (hn : Nat.ble n 8000 = true) : Bd x := Nat.lt_of_lt_of_le h (Nat.pow_le_pow_right (by decide) (Nat.le_of_ble_eq_true hn))
theorem bwm {m n : Nat} {x y : Int} (hx : Bw m x) (hy : Bw n y) (h : (Nat.ble m 8000 && Nat.ble n 8000) = true) : CMulS x y := by
  simp only [Bool.and_eq_true] at h
  have hx := hx.bd h.1
  have hy := hy.bd h.2
  exact .inr (.inr (wide_mul hx hy (by decide) (by decide) (by decide)))
theorem bw_of {x : Int} {n k : Nat} (h : x.natAbs ≤ n) (hn : Nat.blt n (2 ^ k) = true) : Bw k x := Nat.lt_of_le_of_lt h (by simpa using hn)
end L2.My

/-! W7: math.isqrt of great numbers. -/
namespace L2.My
open PySem PySem.Spec PyProof.Rows
section
variable {X : Cx}
/-- the whole of the square root -/
def sqr (a : Int) : Int := ((Float64.isqrt a.toNat : Nat) : Int)
theorem sqr_spec {a : Int} (h : 0 ≤ a) : 0 ≤ sqr a ∧ sqr a * sqr a ≤ a ∧ a < (sqr a + 1) * (sqr a + 1) := by
  obtain ⟨h1, h2⟩ := Float64.isqrt_spec a.toNat
  have e : ((a.toNat : Nat) : Int) = a := by omega
  unfold sqr
  refine ⟨by omega, ?_, ?_⟩
  · have := Int.ofNat_le.mpr h1
    rw [Int.natCast_mul, e] at this
    exact this
  · have := Int.ofNat_lt.mpr h2
    rw [Int.natCast_mul, e] at this
    exact this
def rSq : List V → Hp → VK → Prop := fun vs H Q => ∃ a : Int, vs = [.int a] ∧ 0 ≤ a ∧ Bw 8000 a ∧ Q (.int (sqr a)) H
theorem cr_isqrt : CallR X (.builtin "math.isqrt") rSq := by
  intro pins s σ H vs us Q I r h
  obtain ⟨a, rfl, h0, hb, q⟩ := h
  cases r with
  | cons ra r =>
    cases r
    obtain ⟨t, rfl⟩ := ra
    have hl : a.toNat.log2 < 8000 := PySem.Flt.log2_lt_of (by decide) (by unfold Bw at hb; omega)
    have g := PySem.W.mg_run_isqrt a t (by omega) (by omega) (by omega)
    exact call_function_meets PySem.W.MGF.kind_isqrt PySem.W.MGF.plain_isqrt PySem.W.MGF.entry_isqrt (PySem.W.MGF.args_isqrt _) g.meets ⟨.int _, H, I.tok _, ⟨_, rfl⟩, q⟩
end
end L2.My

/-! W8: for a, b in zip(l, m). -/
namespace L2.My
open PySem PySem.Spec PyProof.Rows
section
variable {K : PySem.W.Frag} {σ : St} {H : Hp} {g : TG} {tb : TS} {D : Ends} {a b : Addr} {xs ys : List V} {ta : TA}
theorem for_zip (Pv : Nat → St → Hp → Prop) (h0 : Pv 0 σ H) (hl : ∀ i σ H, i ≤ xs.length → Pv i σ H → SqL K H a xs ∧ SqL K H b ys) (e : xs.length = ys.length)
    (hs : ∀ i x y σ H T H', xs[i]? = some x → ys[i]? = some y → Pv i σ H → H T = none → Same H H' → H' T = some (.tup [x, y]) → g (.ref T) σ H' fun σ2 H2 => tb ⟨Pv (i + 1), D.rt, D.nx, Pv (i + 1)⟩ σ2 H2) (hd : ∀ σ H, Pv xs.length σ H → D.nx σ H) :
    ∃ W : Nat → Nat → St → Hp → Prop, (∃ m, W 0 m σ H) ∧ ∀ i m σ H, W i m σ H → (Itz K a b).stop i H ∧ D.nx σ H ∨ (Itz K a b).go i H ∧ ∃ N, (∀ σ' H', N σ' H' → ∃ m', m' < m ∧ W (i + 1) m' σ' H') ∧
      ∀ x H', (Itz K a b).yld i H x H' → g x σ H' fun σ2 H2 => tb ⟨N, D.rt, D.nx, N⟩ σ2 H2 := by
  refine ⟨fun i m σ H => Pv i σ H ∧ m + i = xs.length, ⟨xs.length, h0, rfl⟩, fun i m σ H ⟨q, em⟩ => ?_⟩
  obtain ⟨l1, l2⟩ := hl i σ H (by omega) q
  rcases Nat.lt_or_ge i xs.length with h | h
  · right
    have ex : xs[i]? = some xs[i] := List.getElem?_eq_getElem h
    have ey : ys[i]? = some (ys[i]'(by omega)) := List.getElem?_eq_getElem (by omega)
    refine ⟨⟨xs, ys, _, _, l1, l2, ex, ey⟩, Pv (i + 1), fun σ' H' q' => ⟨m - 1, by omega, q', by omega⟩, ?_⟩
    rintro x H' ⟨T, x', y', rfl, hT, rfl, h1, h2⟩
    exact hs i x' y' σ H T _ (h1 xs l1) (h2 ys l2) q hT (Same.new hT) upd_same
  · left
    have : i = xs.length := by omega
    subst this
    exact ⟨⟨xs, ys, l1, l2, .inl (Nat.le_refl _)⟩, hd σ H q⟩
def ForZ (K : PySem.W.Frag) (g : TG) (tb : TS) (D : Ends) (σ : St) (vs : List V) (H : Hp) : Prop := tFor (iZip K fun _ H Q => Q vs H) g tb D σ H
theorem w_forZ (q : ta σ H fun vs H1 => ForZ K g tb D σ vs H1) : tFor (iZip K ta) g tb D σ H := q
theorem k_forZ {nx bk ct : L2.St → Hp → Prop} {rt : VK} (Pv : Nat → St → Hp → Prop) (hx : SqL K H a xs) (hy : SqL K H b ys) (e : xs.length = ys.length) (h0 : Pv 0 σ H) (hl : ∀ i σ H, Pv i σ H → SqL K H a xs ∧ SqL K H b ys)
    (hs : ∀ i x y σ H T H', xs[i]? = some x → ys[i]? = some y → Pv i σ H → H T = none → Same H H' → H' T = some (.tup [x, y]) → g (.ref T) σ H' fun σ2 H2 => tb ⟨Pv (i + 1), rt, nx, Pv (i + 1)⟩ σ2 H2) (hd : ∀ σ H, Pv xs.length σ H → nx σ H) :
    ForZ K g tb ⟨nx, rt, bk, ct⟩ σ [.ref a, .ref b] H :=
  ⟨a, b, xs, ys, rfl, hx, hy, for_zip (D := ⟨nx, rt, bk, ct⟩) Pv h0 (fun i σ H _ q => hl i σ H q) e hs hd⟩
theorem ix_seqZ {X : Cx} {K : PySem.W.Frag} (h : X.K = K) : IxR X (rIx K) := h ▸ ix_seq
end
end L2.My

/-! W9: plain things, tuples of ints, data of any depth, all(), slices and sums of tuples. -/
namespace L2.My
open PySem PySem.Spec PyProof.Rows
/-- a thing that is no instance -/
inductive Plain (H : Hp) : V → Prop
  | non : Plain H .non
  | bl (b : Bool) : Plain H (.bl b)
  | int (i : Int) : Plain H (.int i)
  | str (s : Str) : Plain H (.str s)
  | lst (a : Addr) (xs : List V) (e : H a = some (.lst xs)) : Plain H (.ref a)
  | tup (a : Addr) (xs : List V) (e : H a = some (.tup xs)) : Plain H (.ref a)
  | dK (a : Addr) (kvs : List (L2.Key × V)) (e : H a = some (.dK kvs)) : Plain H (.ref a)
theorem Plain.same {H H' : Hp} {v : V} (h : Plain H v) (s : Same H H') : Plain H' v := by
  cases h with
  | non => exact .non
  | bl b => exact .bl b
  | int i => exact .int i
  | str s => exact .str s
  | lst a xs e => exact .lst a xs (s _ _ e)
  | tup a xs e => exact .tup a xs (s _ _ e)
  | dK a xs e => exact .dK a xs (s _ _ e)
theorem Plain.th {c : Addr} {H : Hp} {v : V} (h : Plain H v) : Th c H v := by
  cases h with
  | non => exact .non
  | bl b => exact .bl b
  | int i => exact .int i
  | str s => exact .str s
  | lst a xs e => exact .lst a xs e
  | tup a xs e => exact .tup a xs e
  | dK a xs e => exact .dK a xs e
def isTu (H : Hp) : V → Bool
  | .ref a => match H a with
    | some (.tup _) => true
    | _ => false
  | _ => false
theorem isTu_tup {H : Hp} {a : Addr} {xs : List V} (e : H a = some (.tup xs)) : isTu H (.ref a) = true := by
  show (match H a with | some (.tup _) => true | _ => false) = true
  rw [e]
theorem isTu_lst {H : Hp} {a : Addr} {xs : List V} (e : H a = some (.lst xs)) : isTu H (.ref a) = false := by
  show (match H a with | some (.tup _) => true | _ => false) = false
  rw [e]
theorem isTu_dK {H : Hp} {a : Addr} {xs : List (L2.Key × V)} (e : H a = some (.dK xs)) : isTu H (.ref a) = false := by
  show (match H a with | some (.tup _) => true | _ => false) = false
  rw [e]
theorem Plain.ty {K : PySem.W.Frag} {H : Hp} {v : V} (h : Plain H v) : ∃ t, TyX K H v t ∧ PySem.W.kitOne K t (.type "int") = some (isI v || isB v) ∧ PySem.W.kitOne K t (.type "bool") = some (isB v) ∧ PySem.W.kitOne K t (.type "tuple") = some (isTu H v) := by
  have kb : ∀ (a b : String) (r : Bool), kitB a b = some r → PySem.W.kitOne K (.type a) (.type b) = some r := fun _ _ _ h => kit_ty h
  cases h with
  | non => exact ⟨_, .base .non, kb "NoneType" "int" false (by decide +kernel), kb "NoneType" "bool" false (by decide +kernel), kb "NoneType" "tuple" false (by decide +kernel)⟩
  | bl b => exact ⟨_, .base (.bl b), kb "bool" "int" true (by decide +kernel), kb "bool" "bool" true (by decide +kernel), kb "bool" "tuple" false (by decide +kernel)⟩
  | int i => exact ⟨_, .base (.int i), kb "int" "int" true (by decide +kernel), kb "int" "bool" false (by decide +kernel), kb "int" "tuple" false (by decide +kernel)⟩
  | str s => exact ⟨_, .base (.str s), kb "str" "int" false (by decide +kernel), kb "str" "bool" false (by decide +kernel), kb "str" "tuple" false (by decide +kernel)⟩
  | lst a xs e => exact ⟨_, .base (.lst e), kb "list" "int" false (by decide +kernel), kb "list" "bool" false (by decide +kernel), by rw [isTu_lst e]; exact kb "list" "tuple" false (by decide +kernel)⟩
  | tup a xs e => exact ⟨_, .base (.tup e), kb "tuple" "int" false (by decide +kernel), kb "tuple" "bool" false (by decide +kernel), by rw [isTu_tup e]; exact kb "tuple" "tuple" true (by decide +kernel)⟩
  | dK a xs e => exact ⟨_, .base (.dK e), kb "dict" "int" false (by decide +kernel), kb "dict" "bool" false (by decide +kernel), by rw [isTu_dK e]; exact kb "dict" "tuple" false (by decide +kernel)⟩
section
variable {K : PySem.W.Frag} {σ : L2.St} {H : Hp} {Q : VK} {a b : Addr} {xs ys : List V} {te : TE} {ws : List Nat} {g : TG} {tt : TT} {v : V}
/-- a raised class that a clause's class is no base of -/
theorem exm_no {K : PySem.W.Frag} {S D : Addr} (h1 : PySem.W.mroIn K D (.type "BaseException") = some true) (h2 : PySem.W.isClsIn K D = true) (h3 : PySem.W.typeIn K (.ref D) = some (.type "type")) (h4 : PySem.W.mroIn K S (.ref D) = some false) :
    PySem.W.exmOne K (.ref S) (.ref D) = some false := by
  have e1 : (PySem.W.subIn K (.ref D) (.type "BaseException") == some true) = true := by
    have : PySem.W.subIn K (.ref D) (.type "BaseException") = some true := h1
    rw [this] <;> rfl
  show (if (PySem.W.subIn K (.ref D) (.type "BaseException") == some true) = true then PySem.W.kitCls K (.ref S) (.ref D) else none) = some false
  rw [if_pos e1, kit_eq h2 h3]
  exact h4
theorem w_all {bs : List Bool} (h : SqL K H a (bs.map V.bl)) (q : Q (.bl (bs.all id)) H) : rAll K [.ref a] H Q := ⟨a, bs, rfl, h, q⟩
/-- a slice of a tuple that is not the whole -/
theorem k_slT {lo hi : Option Int} (h : H a = some (.tup xs)) (n : ¬ (HT.sIx xs.length 0 lo = 0 ∧ HT.sIx xs.length xs.length hi = xs.length)) (q : ∀ p H2, H p = none → Same H H2 → H2 p = some (.tup (cutV xs lo hi)) → Q (.ref p) H2) : SlP (rSlA K) (.ref a) lo hi H Q :=
  ⟨a, xs, rfl, SqT.of h, fun z => absurd z n, fun _ p hp => q p _ hp (Same.new hp) upd_same⟩
/-- t + u, both not empty -/
theorem w_catT (h1 : H a = some (.tup xs)) (h2 : H b = some (.tup ys)) (n1 : xs ≠ []) (n2 : ys ≠ []) (hl : Nat.ble (xs.length + ys.length) 1000 = true) (q : ∀ p H2, H p = none → Same H H2 → H2 p = some (.tup (xs ++ ys)) → Q (.ref p) H2) : rCatA K (.ref a) (.ref b) H Q :=
  ⟨a, b, xs, ys, rfl, rfl, SqT.of h1, SqT.of h2, sz1000 (Nat.le_of_ble_eq_true hl), fun z => absurd z n1, fun _ z => absurd z n2, fun _ _ p hp => q p _ hp (Same.new hp) upd_same⟩
/-- t + u, any -/
theorem w_catA (h1 : H a = some (.tup xs)) (h2 : H b = some (.tup ys)) (hl : Nat.ble (xs.length + ys.length) 1000 = true) (q : ∀ p H2, Same H H2 → H2 p = some (.tup (xs ++ ys)) → Q (.ref p) H2) : rCatA K (.ref a) (.ref b) H Q :=
  ⟨a, b, xs, ys, rfl, rfl, SqT.of h1, SqT.of h2, sz1000 (Nat.le_of_ble_eq_true hl), fun z => q b H (Same.refl _) (by rw [h2, z, List.nil_append]), fun _ z => q a H (Same.refl _) (by rw [h1, z, List.append_nil]), fun _ _ p hp => q p _ (Same.new hp) upd_same⟩
theorem k_slA {lo hi : Option Int} (h : H a = some (.tup xs)) (q : ∀ p H2, Same H H2 → H2 p = some (.tup (cutV xs lo hi)) → Q (.ref p) H2) : SlP (rSlA K) (.ref a) lo hi H Q :=
  ⟨a, xs, rfl, SqT.of h, fun z => q a H (Same.refl _) (by
    have : cutV xs lo hi = xs := by
      unfold cutV
      rw [z.1, z.2, List.drop_zero, Nat.sub_zero, List.take_length]
    rw [h, this]), fun _ p hp => q p _ (Same.new hp) upd_same⟩
/-- [..] * k -/
theorem w_rep {k : Int} (h : H a = some (.lst xs)) (k0 : -(2 ^ 63) ≤ k) (k1 : k < 2 ^ 63) (hl : Nat.ble (xs.length * k.toNat) 1000 = true) (q : ∀ p H2, H p = none → Same H H2 → H2 p = some (.lst (List.replicate k.toNat xs).flatten) → Q (.ref p) H2) : rRep (.ref a) (.int k) H Q :=
  ⟨a, k, xs, rfl, rfl, h, k0, k1, sz1000 (Nat.le_of_ble_eq_true hl), fun p hp => q p _ hp (Same.new hp) upd_same⟩
/-- tuple(list) -/
def rTupOf (K : PySem.W.Frag) : List V → Hp → VK → Prop := fun xs H Q => ∃ p ys, xs = [.ref p] ∧ ((SqL K H p ys ∧ ∀ l, H l = none → Q (.ref l) (upd H l (.tup ys))) ∨ (SqT K H p ys ∧ Q (.ref p) H))
theorem cn_tuple {X : Cx} : CallR X (.type "tuple") (rTupOf X.K) := call_tuple_of
theorem w_tupL (h : H a = some (.lst xs)) (q : ∀ p H2, H p = none → Same H H2 → H2 p = some (.tup xs) → Q (.ref p) H2) : rTupOf K [.ref a] H Q := ⟨a, xs, rfl, .inl ⟨SqL.of h, fun l hl => q l _ hl (Same.new hl) upd_same⟩⟩
/-- xs.append(y) -/
theorem w_append {l : Addr} {y : V} (h : H l = some (.lst xs)) (hl : xs.length < 1000) (q : ∀ H2, SameX l H H2 → H2 l = some (.lst (xs ++ [y])) → Q .non H2) : rAppend (.ref l) [y] H Q :=
  ⟨l, xs, y, rfl, rfl, h, Nat.lt_of_lt_of_le hl (by decide), q _ (SameX.upd fun _ _ _ e => e) upd_same⟩
/-- a, b, c, d = t -/
theorem k_tup4 {T : Addr} {x y z u : V} {σ' : L2.St} {i j k l : Nat} {N : L2.St → Hp → Prop} {n : Nat} (hT : H T = some (.tup [x, y, z, u])) (hn : n = 4) (hσ : (((σ.set i (some x)).set j (some y)).set k (some z)).set l (some u) = σ') (q : N σ' H) :
    gTup K n (gCons (gName i) (gCons (gName j) (gCons (gName k) (gCons (gName l) gNil)))) (.ref T) σ H N := by
  subst hσ
  exact ⟨T, [x, y, z, u], rfl, SqT.of hT, by rw [hn]; rfl, x, [y, z, u], rfl, y, [z, u], rfl, z, [u], rfl, u, [], rfl, rfl, q⟩
theorem k_tupl2 {T : Addr} {x y : V} {σ' : L2.St} {i j : Nat} {N : L2.St → Hp → Prop} {n : Nat} (hT : H T = some (.tup [x, y])) (hn : n = 2) (hσ : (σ.set i (some x)).set j (some y) = σ') (q : N σ' H) : gTup K n (gCons (gName i) (gCons (gName j) gNil)) (.ref T) σ H N := by
  subst hσ
  exact ⟨T, [x, y], rfl, SqT.of hT, by rw [hn]; rfl, x, [y], rfl, y, [], rfl, rfl, q⟩
/-- a comprehension over a tuple whose turns tell flags and change nothing -/
theorem k_lcFlags {f : V → Bool} {slot : Nat} (h : H a = some (.tup xs)) (hl : xs.length ≤ 500) (hw : ∀ x, wipe ((wipe σ ws).set slot (some x)) ws = wipe σ ws)
    (turn : ∀ x H', x ∈ xs → Same H H' → ∀ N : VK, N (.bl (f x)) H' → te ((wipe σ ws).set slot (some x)) H' N)
    (hd : ∀ D H', H D = none → Same H H' → H' D = some (.lst ((xs.map f).map V.bl)) → Q (.ref D) H') : CompT K (gName slot) tYes te ws σ (.ref a) H Q := by
  refine ⟨a, rfl, ⟨_, SqT.of h⟩, fun D hD => lc_tup (xs := xs) (fun i H' => Same H H' ∧ H' D = some (.lst (((xs.take i).map f).map V.bl))) ⟨Same.new hD, upd_same⟩ (fun i H' _ e => SqT.of (e.1 _ _ h)) (fun i x H' hx e => ?_) (fun H' e => ?_)⟩
  · have hi : i < xs.length := (List.getElem?_eq_some_iff.mp hx).1
    obtain rfl : xs[i] = x := by rw [List.getElem?_eq_getElem hi] at hx; exact Option.some.inj hx
    refine ⟨hw _, ?_⟩
    refine w_yes (w_T rfl ?_)
    refine turn _ H' (List.getElem_mem hi) e.1 _ ?_
    refine ⟨_, e.2, by rw [List.length_map, List.length_map, List.length_take]; exact sz_lt (by omega), fun b o eb => ?_, ?_⟩
    · rw [upd_ne (ne_of_none eb hD)]
      exact e.1 b o eb
    · have e2 : xs.take (i + 1) = xs.take i ++ [xs[i]] := by rw [List.take_add_one, List.getElem?_eq_getElem hi]; rfl
      rw [upd_same, e2, List.map_append, List.map_append]
      rfl
  · have e2 := e.2
    rw [List.take_length] at e2
    exact hd D H' hD e.1 e2
theorem w_lcTT {tl : TE} (q : tl σ H fun x H1 => CompT K g tt te ws σ x H1 Q) : tLc (iTup K tl) g tt te ws σ H Q := q
/-- a thing of data, not deep -/
structure Data (K : PySem.W.Frag) (H : Hp) (v : V) (d : PyData) : Prop where
  dp : Dp K H v d
  lay : d.canLay0 = true
  dep : d.depth ≤ 10
theorem sqL_same {H H' : Hp} {a : Addr} {xs : List V} (h : H a = some (.lst xs)) (s : Same H H') : SqL K H' a xs := SqL.of (s _ _ h)
theorem eq_same {d : PyData} (h : d.canLay0 = true) : PyData.eqv d d = true := SeqAt.eqv_refl d h
end
/-! ### zip of two tuples -/
section
variable {K : PySem.W.Frag} {σ : St} {H : Hp} {g : TG} {tb : TS} {D : Ends} {a b : Addr} {xs ys : List V} {ta : TA}
def ForZT (K : PySem.W.Frag) (g : TG) (tb : TS) (D : Ends) (σ : St) (vs : List V) (H : Hp) : Prop := tFor (RZ.iZipA K fun _ H Q => Q vs H) g tb D σ H
theorem w_forZT (q : ta σ H fun vs H1 => ForZT K g tb D σ vs H1) : tFor (RZ.iZipA K ta) g tb D σ H := q
theorem for_zipT (Pv : Nat → St → Hp → Prop) (h0 : Pv 0 σ H) (hl : ∀ i σ H, i ≤ xs.length → Pv i σ H → SqT K H a xs ∧ SqT K H b ys) (e : xs.length = ys.length)
    (hs : ∀ i x y σ H T H', xs[i]? = some x → ys[i]? = some y → Pv i σ H → H T = none → Same H H' → H' T = some (.tup [x, y]) → g (.ref T) σ H' fun σ2 H2 => tb ⟨Pv (i + 1), D.rt, D.nx, Pv (i + 1)⟩ σ2 H2) (hd : ∀ σ H, Pv xs.length σ H → D.nx σ H) :
    ∃ W : Nat → Nat → St → Hp → Prop, (∃ m, W 0 m σ H) ∧ ∀ i m σ H, W i m σ H → (RZ.ItzT K a b).stop i H ∧ D.nx σ H ∨ (RZ.ItzT K a b).go i H ∧ ∃ N, (∀ σ' H', N σ' H' → ∃ m', m' < m ∧ W (i + 1) m' σ' H') ∧
      ∀ x H', (RZ.ItzT K a b).yld i H x H' → g x σ H' fun σ2 H2 => tb ⟨N, D.rt, D.nx, N⟩ σ2 H2 := by
  refine ⟨fun i m σ H => Pv i σ H ∧ m + i = xs.length, ⟨xs.length, h0, rfl⟩, fun i m σ H ⟨q, em⟩ => ?_⟩
  obtain ⟨l1, l2⟩ := hl i σ H (by omega) q
  rcases Nat.lt_or_ge i xs.length with h | h
  · right
    have ex : xs[i]? = some xs[i] := List.getElem?_eq_getElem h
    have ey : ys[i]? = some (ys[i]'(by omega)) := List.getElem?_eq_getElem (by omega)
    refine ⟨⟨xs, ys, _, _, l1, l2, ex, ey⟩, Pv (i + 1), fun σ' H' q' => ⟨m - 1, by omega, q', by omega⟩, ?_⟩
    rintro x H' ⟨T, x', y', rfl, hT, rfl, h1, h2⟩
    exact hs i x' y' σ H T _ (h1 xs l1) (h2 ys l2) q hT (Same.new hT) upd_same
  · left
    have : i = xs.length := by omega
    subst this
    exact ⟨⟨xs, ys, l1, l2, .inl (Nat.le_refl _)⟩, hd σ H q⟩
theorem k_forZT {nx bk ct : L2.St → Hp → Prop} {rt : VK} (Pv : Nat → St → Hp → Prop) (hx : H a = some (.tup xs)) (hy : H b = some (.tup ys)) (e : xs.length = ys.length) (h0 : Pv 0 σ H) (hl : ∀ i σ H, Pv i σ H → SqT K H a xs ∧ SqT K H b ys)
    (hs : ∀ i x y σ H T H', xs[i]? = some x → ys[i]? = some y → Pv i σ H → H T = none → Same H H' → H' T = some (.tup [x, y]) → g (.ref T) σ H' fun σ2 H2 => tb ⟨Pv (i + 1), rt, nx, Pv (i + 1)⟩ σ2 H2) (hd : ∀ σ H, Pv xs.length σ H → nx σ H) :
    ForZT K g tb ⟨nx, rt, bk, ct⟩ σ [.ref a, .ref b] H :=
  ⟨a, b, xs, ys, rfl, .inr ⟨SqT.of hx, SqT.of hy, for_zipT (D := ⟨nx, rt, bk, ct⟩) Pv h0 (fun i σ H _ q => hl i σ H q) e hs hd⟩⟩
end
/-- what is no list stays -/
def Kps (H H' : Hp) : Prop := ∀ b o, (∀ xs, o ≠ .lst xs) → H b = some o → H' b = some o
theorem Kps.refl (H : Hp) : Kps H H := fun _ _ _ h => h
theorem Kps.trans {A B C : Hp} (h : Kps A B) (k : Kps B C) : Kps A C := fun b o n e => k b o n (h b o n e)
theorem Kps.same {A B : Hp} (h : Same A B) : Kps A B := fun b o _ e => h b o e
theorem Kps.sx {A B : Hp} {l : Addr} {ys : List V} (hl : A l = some (.lst ys)) (h : SameX l A B) : Kps A B := fun b o n e => h b o (ne_of e hl (n _)) e
theorem Kps.st {A B : Hp} {st sc : Addr} (hs : StA A st sc) (h : SameX st A B) : Kps A B := fun b o n e => h b o (hs.ne e n) e
theorem Kps.tup {A B : Hp} (h : Kps A B) {a : Addr} {xs : List V} (e : A a = some (.tup xs)) : B a = some (.tup xs) := h _ _ (by intro xs z; cases z) e
/-! ### xs.append(e), a <= b <= c -/
def LBm (K : PySem.W.Frag) (x : V) (H : Hp) (N : Prop) : Prop := tyV K "list" x H ∧ N
theorem w_bm {K : PySem.W.Frag} {r : V → List V → Hp → VK → Prop} {to : TE} {t : TA} {σ : L2.St} {H : Hp} {Q : VK} (q : to σ H fun x H1 => LBm K x H1 (t σ H1 fun xs H2 => r x xs H2 Q)) : tBM K "list" r to t σ H Q := q
theorem k_bm {K : PySem.W.Frag} {a : Addr} {xs : List V} {H : Hp} {N : Prop} (h : H a = some (.lst xs)) (q : N) : LBm K (.ref a) H N := ⟨.inl ⟨rfl, _, SqL.of h⟩, q⟩
theorem w_chain {r r' : R2} {ta tb tc : TE} {σ : L2.St} {H : Hp} {Q : VK} (q : ta σ H fun x H1 => tb σ H1 fun y H2 => r x y H2 fun z H3 => ∃ k, z = .bl k ∧ (if k = true then tc σ H3 fun w' H4 => r' y w' H4 Q else Q (.bl false) H3)) : tChain r r' ta tb tc σ H Q := q
/-- o.m(e, ..) where the fragment is told: a suite's context bears the caught error, its fragment is the same -/
theorem pe_bmZ {X : Cx} {K : PySem.W.Frag} {o e : Expr} {es : List Expr} {to : TE} {t : TA} {m : Str} {ap cp : Pos} {T id : String} {r : V → List V → Hp → VK → Prop} (hK : X.K = K)
    (pa : PlainAttrs T) (sl : Slot T m id) (ht : typeOf (.builtin id) = pure (.type "method_descriptor")) (hm : MtR X id r) (ho : PE X o to) (ha : PA X (e :: es) t)
    (h1 : attributeBase o m X.env (eval o X.env) = eval o X.env := by rfl)
    (h2 : ((backTo cp (starEach (e :: es) X.env)).all (fun x => !x.1) && (backToKw cp (keywordEach [] X.env)).all (fun x => x.1.isSome) && decide ((e :: es).length + ([] : List Keyword).length + (if ([] : List Keyword).isEmpty then 0 else 1) < 30)) = true := by rfl)
    (h3 : (ap.endLine == cp.line) = true := by rfl) (h4 : starEach (e :: es) X.env = (false, eval e X.env) :: starEach es X.env := by rfl) (h5 : (backTo cp (starEach es X.env)).any (·.1) = false := by rfl) :
    PE X (.Call (.Attribute o m ap) (e :: es) [] cp) (tBM K T r to t) := by
  subst hK
  exact pe_bm pa sl ht hm ho ha h1 h2 h3 h4 h5
end L2.My

/-! W10: xs[i] += e; == of two lists of the same things; try with several clauses 'except C as n'. -/
namespace L2.My
open PySem PySem.Spec PyProof.Rows
section
variable {X : Cx} {H : Hp} {Q : VK} {a b : Addr} {xs : List V}
/-- the read of xs[i] += e -/
def rGetL : R2 := fun o i H Q => ∃ p ys k v, o = .ref p ∧ i = .int k ∧ H p = some (.lst ys) ∧ 0 ≤ k ∧ atI ys k = some v ∧ Q v H
theorem get_list : PGet X rGetL := by
  intro pins s σ H o i ov iv Q I ro ri ⟨p, ys, k, v, eo, ei, hp, k0, hv, q⟩
  subst eo ei
  cases ro
  obtain ⟨tk, rfl⟩ := ri
  obtain ⟨its, rv, pl, sz⟩ := I.list (SqL.of hp)
  obtain ⟨j, j1, j2, j3, -, j5⟩ := atI_get hv
  obtain ⟨w, ew, rw'⟩ := rv.get j2
  have big := line63
  have ej : k.toNat = j := by
    have j1' := j1
    rw [seqIndex_of k0 j5] at j1'
    exact Option.some.inj j1'
  exact wpAny_getItem_list pl.isList k0 (by omega) (by rw [ej]; simpa using ew) ⟨v, H, I, rw', q⟩
theorem w_getL {k : Int} {v : V} (h : H a = some (.lst xs)) (k0 : 0 ≤ k) (e : atI xs k = some v) (q : Q v H) : rGetL (.ref a) (.int k) H Q := ⟨a, xs, k, v, rfl, rfl, h, k0, e, q⟩
theorem w_augS {to ti te : TE} {tget : V → V → Hp → VK → Prop} {tip : TIp} {tset : TSet} {σ : L2.St} {H : Hp} {nx bk ct : L2.St → Hp → Prop} {rt : VK}
    (q : to σ H fun o H1 => ti σ H1 fun i H2 => tget o i H2 fun x H3 => te σ H3 fun y H4 => tip x y H4 fun z H5 => tset o i z H5 fun H6 => nx σ H6) : tAugS to ti te tget tip tset ⟨nx, rt, bk, ct⟩ σ H := q
/-- both sides are lists of the same objects, one by one -/
def rEqIds : R2 := fun x y H Q => ∃ (l m : Addr) (as : List Addr), x = .ref l ∧ y = .ref m ∧ H l = some (.lst (as.map V.ref)) ∧ H m = some (.lst (as.map V.ref)) ∧ Q (.bl true) H
theorem refs_same {as : List Addr} : ∀ {us us' : List Value}, Vals (as.map V.ref) us → Vals (as.map V.ref) us' → us = us' := by
  induction as with
  | nil => intro us us' h h'; cases h; cases h'; rfl
  | cons p as ih =>
    intro us us' h h'
    cases h with
    | cons r t =>
      cases h' with
      | cons r' t' =>
        cases r
        cases r'
        rw [ih t t']
theorem op_eqIds (hu : X.A.units < cLine) : OpR X (compareOp .Eq) rEqIds := by
  intro pins s σ H x y v u Q I rx ry ⟨l, m, as, ex, ey, hl, hm, q⟩
  subst ex ey
  cases rx
  cases ry
  obtain ⟨its, rv, pl, -⟩ := I.list (SqL.of hl)
  obtain ⟨its', rv', pl', -⟩ := I.list (SqL.of hm)
  obtain rfl := refs_same rv rv'
  refine SeqAt.eq_listAt (e := fun _ => true) pl.isList pl'.isList rfl hu (fun j h1 h2 => SeqAt.EqAt.same _) ?_
  rw [show (List.range its.toArray.size).all (fun _ => true) = true from List.all_eq_true.mpr fun _ _ => rfl]
  exact ⟨.bl true, H, I, rfl, q⟩
theorem w_eqIds {as : List Addr} (h1 : H a = some (.lst (as.map V.ref))) (h2 : H b = some (.lst (as.map V.ref))) (q : Q (.bl true) H) : rEqIds (.ref a) (.ref b) H Q := ⟨a, b, as, rfl, rfl, h1, h2, q⟩
end
/-! ### several clauses 'except C as n' -/
/-- one clause: the class, the name's slot, the suite's reading -/
structure Clause where
  c : Value
  i : Nat
  ts : Addr → Value → Option Addr → TS
/-- the ends of a suite whose name goes behind it -/
def goneE (D : Ends) (i : Nat) : Ends := { nx := fun σ H => D.nx (σ.set i none) H, rt := D.rt, bk := fun σ H => D.bk (σ.set i none) H, ct := fun σ H => D.ct (σ.set i none) H }
def wClauses (K : PySem.W.Frag) (Wo : WX) (D : Ends) : List Clause → WX
  | [] => Wo
  | k :: r => fun cls d σ H => ∃ b, PySem.W.exmOne K cls k.c = some b ∧ (b = true → ∀ a, H a = none → k.ts a cls d (goneE D k.i) (σ.set k.i (some (.ref a))) H) ∧ (b = false → wClauses K Wo D r cls d σ H)
inductive ClausesOk (X : Cx) : List ExceptHandler → List Clause → Prop
  | nil : ClausesOk X [] []
  | cons {x n : Str} {c : Value} {i : Nat} {ts : Addr → Value → Option Addr → TS} {st : Stmt} {sts : List Stmt} {np hp : Pos} {hs : List ExceptHandler} {ks : List Clause} (nd : X.N.Nodup) (at_ : X.N[i]? = some n) (loc : X.env.kindOf n = some .local) (nm : Names X x c)
      (su : ∀ (a : Addr) (oe : Obj) (cls : Value) (d : Option Addr) (pn : List (Addr × Obj)), Zc cls d oe → (∃ vs, oe.data = .fields vs) → PSs (X.suite a ((a, oe) :: pn)) (st :: sts) (ts a cls d)) (more : ClausesOk X hs ks) :
      ClausesOk X (.ExceptHandler (some (.Name x np)) (some n) (st :: sts) hp :: hs) (⟨c, i, ts⟩ :: ks)
section
variable {X : Cx} {body : List Stmt} {h0 : ExceptHandler} {hs : List ExceptHandler} {ks : List Clause} {pos : Pos} {tb : WX → TS} {Wo : WX}
theorem ps_try_clauses (stk : X.stack = X.env :: X.outer) (frm : X.env.frame = some X.env.locals) (tk : Takes X Wo)
    (bd : ∀ (W : WX) (pn : List (Addr × Obj)) (xe : Value → Shared → Prop), Takes (X.tr pn xe) W → PassesOwn (model X.prog X.w) X.A X.env xe → PSs (X.tr pn xe) body (tb W)) (cl : ClausesOk X (h0 :: hs) ks) :
    PS X (.Try body (h0 :: hs) [] [] pos) (fun D σ H => tb (wClauses X.K Wo D ks) D σ H) := by
  refine ⟨fun pins s σ H D I wish => wpAny_Try_except ?_⟩
  have good := I.ok
  have frs0 : X.A.frames = some (X.env :: X.outer) := good.frames.trans (by rw [stk])
  refine wpAny_mono ((bd (wClauses X.K Wo D ks) (X.pn ++ pins) (fun e s1 => wpAny (model X.prog X.w) X.A (noteFrame e X.env) (fun _ s2 => wpAny (model X.prog X.w) X.A (setFlight e none) (fun _ s3 => wpAny (model X.prog X.w) X.A (handleBy e X.env (h0 :: hs)) (SP X pins D) X.xe s3) X.xe s2) X.xe s1)
    (fun u s1 air => ?_) PassesOwn.looking).run [] s σ H D (I.toTry _) wish) (fun f s1 out => ?_) (fun _ _ z => z)
  · obtain ⟨a, B, s0, pins1, σ1, H1, cls, d, rfl, J0, ground, upTo, sky0, free, sameOs, bare, wants⟩ := air
    have J : Inv X pins σ1 H1 s0 := J0.ofTry good
    rw [stk] at sky0
    show wpAny _ X.A (noteFrame (.ref a) X.env) _ _ _
    refine Sky.land Zc.steady frs0 frm sky0 fun g fly up1 => ?_
    have upAll := upTo.trans up1
    have JL : Inv X pins σ1 H1 { s1 with heap := g } := J.landed ground fly.1 upAll sameOs bare
    obtain ⟨oe, fs, atA, isZ, dat⟩ := fly.there
    have out0 : a ∉ frs (X.env :: X.outer) := fun mem => by
      obtain ⟨_, o2, at2, notF⟩ := fly.2.2.1.mem mem
      rw [atA] at at2
      cases at2
      exact notF _ dat
    have outL : a ≠ X.env.locals := fun z => out0 (List.mem_filterMap.mpr ⟨X.env, List.mem_cons_self, by rw [frm, z]⟩)
    have outF : a ∉ X.fs := fun mem => by
      obtain ⟨ev, mv, qv⟩ := List.mem_filterMap.mp mem
      exact out0 (List.mem_filterMap.mpr ⟨ev, List.mem_cons_of_mem _ mv, qv⟩)
    have JS := JL.suite atA dat free outL outF
    have each : ∀ {hs' : List ExceptHandler} {ks' : List Clause}, ClausesOk X hs' ks' → wClauses X.K Wo D ks' cls d σ1 H1 → wpAny (model X.prog X.w) X.A (handleBy (.ref a) X.env hs') (SP X pins D) X.xe { s1 with heap := g } := by
      intro hs' ks' ok'
      induction ok' with
      | nil =>
        intro last
        obtain ⟨q1, q2, q3, oe', fs', T, oT, tf, atE, zE, dE, f1, rest⟩ := id fly
        have thrown : wpAny (model X.prog X.w) X.A (setFlight (.ref a) X.env.frame) (fun _ s4 => wpAny (model X.prog X.w) X.A (throw (.ref a) : Sem Flow) (SP X pins D) X.xe s4) X.xe { s1 with heap := g } := by
          rw [frm]
          exact HandSPX.setFlight_upZ fly fun g2 held up2 => wpAny_throw (tk _ _ ⟨a, B, s0, pins, σ1, H1, cls, d, rfl, J, ground, upAll.trans up2, .inr (.inr (by rw [stk]; exact held)), free, sameOs, bare, last⟩)
        refine wpAny_handleBy_nil ?_
        unfold PySem.passOn
        refine wpAny_bind (wpAny_field atE dE f1 ?_)
        rw [if_neg (by simp : ¬ ((Value.ref T == Value.none) = true))]
        first
          | exact wpAny_bind (wpAny_pure (wpAny_bind thrown))
          | exact wpAny_bind thrown
      | @cons x n kc ki kts st sts np hp hs2 ks2 nd at_ loc nm su more ih =>
        rintro ⟨b, isB, yes, no⟩
        refine wpAny_handleBy_cons (codeAny_handlers_test ?_) (by intro z; cases z)
        have lookT : PySem.W.Looks (model X.prog X.w) g (typeOf (.ref a)) cls := fun _ _ _ _ keep q => wpAny_typeOf_ref (keep _ _ atA) (by rw [isZ.1]; exact q)
        have lookM := PySem.W.exm_one (M := model X.prog X.w) JL.kIn lookT isB
        have named : ∀ {Q E : Value → Shared → Prop}, Q kc { s1 with heap := g } → wpAny (model X.prog X.w) (X.A.mark (some (.ref a))) (eval (.Name x np) X.env) Q E { s1 with heap := g } := fun {Q E} q => by
          obtain ⟨gl, nodbg, m1 | ⟨m1, m2, m3⟩⟩ := nm
          · exact ld_glob (X := X.suite a ((a, oe) :: (X.pn ++ pins))) JS gl m1 q nodbg
          · exact ld_blt (X := X.suite a ((a, oe) :: (X.pn ++ pins))) JS gl m1 m2 q m3 nodbg
        refine named (lookM.here ?_)
        cases b with
        | false =>
          show wpAny _ X.A (handleBy (.ref a) X.env hs2) _ _ _
          exact ih (no rfl)
        | true =>
          refine codeAny_handlers_suite_as (HandSPX.lands_againZ fly fun g2 fly2 up2 => ?_)
          have J2 : Inv X pins σ1 H1 { s1 with heap := g2 } := J.landed ground fly2.1 (upAll.trans up2) sameOs bare
          obtain ⟨oe2, fs2, at2, isZ2, dat2⟩ := fly2.there
          refine store_ok (X := X.suite a ((a, oe2) :: (X.pn ++ pins))) (v := .ref a) (J2.suite at2 dat2 free outL outF) nd at_ (.inl loc) rfl (fun s5 J5 => ?_) (.inr loc)
          have ends : ∀ {σ6 : St} {H6 : Hp} {s6 : Shared} {Q : Shared → Prop}, Inv (X.suite a ((a, oe2) :: (X.pn ++ pins))) [] σ6 H6 s6 → (∀ s7, Inv X pins (σ6.set ki none) H6 s7 → Q s7) →
              wpAny (model X.prog X.w) X.A (do bindName X.env n .none; unbindBehindTheSuite X.env n hp) (fun _ s7 => Q s7) X.xe s6 := fun J6 q => gone_ok (J6.unsuite good) nd at_ loc q
          refine wpAny_mono ((su a oe2 cls d (X.pn ++ pins) isZ2 ⟨_, dat2⟩).run [] s5 _ H1 _ J5 (yes rfl a free)) (fun f s6 left => ?_) (fun _ _ z => z.elim)
          cases f with
          | ret u => obtain ⟨v6, σ6, H6, J6, r6, q6⟩ := left; exact ends J6 fun s7 J7 => ⟨_, _, _, J7, r6, q6⟩
          | next => obtain ⟨σ6, H6, J6, q6⟩ := left; exact ends J6 fun s7 J7 => ⟨_, _, J7, q6⟩
          | brk => obtain ⟨σ6, H6, J6, q6⟩ := left; exact ends J6 fun s7 J7 => ⟨_, _, J7, q6⟩
          | cont => obtain ⟨σ6, H6, J6, q6⟩ := left; exact ends J6 fun s7 J7 => ⟨_, _, J7, q6⟩
    exact each cl wants
  · cases f with
    | ret u => obtain ⟨v, σ2, H2, J2, r2, q2⟩ := out; exact ⟨v, σ2, H2, J2.ofTry good, r2, q2⟩
    | next => obtain ⟨σ2, H2, J2, q2⟩ := out; exact wpAny_execs_nil ⟨σ2, H2, J2.ofTry good, q2⟩
    | brk => obtain ⟨σ2, H2, J2, q2⟩ := out; exact ⟨σ2, H2, J2.ofTry good, q2⟩
    | cont => obtain ⟨σ2, H2, J2, q2⟩ := out; exact ⟨σ2, H2, J2.ofTry good, q2⟩
end
theorem k_cl1 {K : PySem.W.Frag} {Wo : WX} {nx bk ct : L2.St → Hp → Prop} {rt : VK} {c : Value} {i : Nat} {ts : Addr → Value → Option Addr → TS} {r : List Clause} {cls : Value} {d : Option Addr} {σ : L2.St} {H : Hp} (e : PySem.W.exmOne K cls c = some true)
    (q : ∀ a, H a = none → ts a cls d ⟨fun σ H => nx (σ.set i none) H, rt, fun σ H => bk (σ.set i none) H, fun σ H => ct (σ.set i none) H⟩ (σ.set i (some (.ref a))) H) : wClauses K Wo ⟨nx, rt, bk, ct⟩ (⟨c, i, ts⟩ :: r) cls d σ H :=
  ⟨true, e, fun _ => q, fun z => nomatch z⟩
theorem k_cl2 {K : PySem.W.Frag} {Wo : WX} {D : Ends} {k : Clause} {r : List Clause} {cls : Value} {d : Option Addr} {σ : L2.St} {H : Hp} (e : PySem.W.exmOne K cls k.c = some false) (q : wClauses K Wo D r cls d σ H) : wClauses K Wo D (k :: r) cls d σ H :=
  ⟨false, e, fun z => (nomatch z), fun _ => q⟩
theorem w_isN {A : Prop} (q : A) : V.non = V.non ∧ A := ⟨rfl, q⟩
end L2.My

/-! W11: math.lcm of two, for over enumerate, comprehensions over tuples and zips with draws. -/
namespace L2.My
open PySem PySem.Spec PyProof.Rows
def rLcm : List V → Hp → VK → Prop := fun vs H Q => ∃ a b : Int, vs = [.int a, .int b] ∧ a.natAbs < 2 ^ 64 ∧ b.natAbs < 2 ^ 64 ∧ Q (.int ((a.natAbs.lcm b.natAbs : Nat) : Int)) H
theorem cr_lcm {X : Cx} : CallR X (.builtin "math.lcm") rLcm := by
  intro pins s σ H vs us Q I r h
  obtain ⟨a, b, rfl, ha, hb, q⟩ := h
  cases r with
  | cons ra r =>
    cases r with
    | cons rb r =>
      cases r
      obtain ⟨t, rfl⟩ := ra
      obtain ⟨u, rfl⟩ := rb
      exact PySem.W.mc_lcm ha hb fun _ => ⟨.int ((a.natAbs.lcm b.natAbs : Nat) : Int), H, I.tok _, ⟨_, rfl⟩, q⟩
theorem w_lcm {a b : Int} {H : Hp} {Q : VK} (ha : a.natAbs < 2 ^ 64) (hb : b.natAbs < 2 ^ 64) (q : Q (.int ((a.natAbs.lcm b.natAbs : Nat) : Int)) H) : rLcm [.int a, .int b] H Q := ⟨a, b, rfl, ha, hb, q⟩
section
variable {K : PySem.W.Frag} {σ : St} {H : Hp} {g : TG} {tb : TS} {D : Ends} {a b : Addr} {xs ys : List V} {ta : TA} {te : TE} {tt : TT} {ws : List Nat} {Q : VK}
def ForEn (K : PySem.W.Frag) (g : TG) (tb : TS) (D : Ends) (σ : St) (vs : List V) (H : Hp) : Prop := tFor (iEnum K fun _ H Q => Q vs H) g tb D σ H
theorem w_forEn (q : ta σ H fun vs H1 => ForEn K g tb D σ vs H1) : tFor (iEnum K ta) g tb D σ H := q
theorem k_forEn {nx bk ct : L2.St → Hp → Prop} {rt : VK} (Pv : Nat → St → Hp → Prop) (hx : SqL K H a xs) (h0 : Pv 0 σ H) (hl : ∀ i σ H, Pv i σ H → SqL K H a xs)
    (hs : ∀ i x σ H T H', xs[i]? = some x → Pv i σ H → H T = none → Same H H' → H' T = some (.tup [.int (i : Nat), x]) → g (.ref T) σ H' fun σ2 H2 => tb ⟨Pv (i + 1), rt, nx, Pv (i + 1)⟩ σ2 H2) (hd : ∀ σ H, Pv xs.length σ H → nx σ H) :
    ForEn K g tb ⟨nx, rt, bk, ct⟩ σ [.ref a] H := by
  refine ⟨a, xs, rfl, hx, fun i m σ H => Pv i σ H ∧ m + i = xs.length, ⟨xs.length, h0, rfl⟩, fun i m σ H ⟨q, em⟩ => ?_⟩
  have l1 := hl i σ H q
  rcases Nat.lt_or_ge i xs.length with h | h
  · right
    have ex : xs[i]? = some xs[i] := List.getElem?_eq_getElem h
    refine ⟨⟨xs, _, l1, ex⟩, Pv (i + 1), fun σ' H' q' => ⟨m - 1, by omega, q', by omega⟩, ?_⟩
    rintro x H' ⟨T, x', rfl, hT, rfl, h1⟩
    exact hs i x' σ H T _ (h1 xs l1) q hT (Same.new hT) upd_same
  · left
    obtain rfl : i = xs.length := by omega
    exact ⟨⟨xs, l1, Nat.le_refl _⟩, hd σ H q⟩
/-- a comprehension over a tuple, any -/
theorem k_lcT (Pv : Nat → Addr → Hp → Prop) (h : H a = some (.tup xs)) (h0 : ∀ D, H D = none → Pv 0 D (upd H D (.lst []))) (hl : ∀ i D H', Pv i D H' → H' a = some (.tup xs))
    (hs : ∀ i x D H, xs[i]? = some x → Pv i D H → g x (wipe σ ws) H fun σ2 H2 => wipe σ2 ws = wipe σ ws ∧ tt σ2 H2 fun b H3 =>
      if b = true then te σ2 H3 fun y H4 => ∃ acc, H4 D = some (.lst acc) ∧ acc.length < sizeLine ∧ Pv (i + 1) D (upd H4 D (.lst (acc ++ [y]))) else Pv (i + 1) D H3) (hd : ∀ D H, Pv xs.length D H → Q (.ref D) H) : CompT K g tt te ws σ (.ref a) H Q :=
  ⟨a, rfl, ⟨_, SqT.of h⟩, fun D hD => lc_tup (xs := xs) (fun i H => Pv i D H) (h0 D hD) (fun i H _ q => SqT.of (hl i D H q)) (fun i x H hx q => hs i x D H hx q) (fun H q => hd D H q)⟩
/-- .. over a zip of two tuples -/
def CompZT (K : PySem.W.Frag) (g : TG) (tt : TT) (te : TE) (ws : List Nat) (σ : St) (vs : List V) (H : Hp) (Q : VK) : Prop := tLc (RZ.iZipA K fun _ H Q => Q vs H) g tt te ws σ H Q
theorem w_lcZT (q : ta σ H fun vs H1 => CompZT K g tt te ws σ vs H1 Q) : tLc (RZ.iZipA K ta) g tt te ws σ H Q := q
theorem k_lcZT (Pv : Nat → Addr → Hp → Prop) (ha : H a = some (.tup xs)) (hb : H b = some (.tup ys)) (e : xs.length = ys.length) (h0 : ∀ D, H D = none → Pv 0 D (upd H D (.lst []))) (hl : ∀ i D H', Pv i D H' → H' a = some (.tup xs) ∧ H' b = some (.tup ys))
    (hs : ∀ i x y D H T H', xs[i]? = some x → ys[i]? = some y → Pv i D H → H T = none → Same H H' → H' T = some (.tup [x, y]) → g (.ref T) (wipe σ ws) H' fun σ2 H2 => wipe σ2 ws = wipe σ ws ∧ tt σ2 H2 fun b H3 =>
      if b = true then te σ2 H3 fun z H4 => ∃ acc, H4 D = some (.lst acc) ∧ acc.length < sizeLine ∧ Pv (i + 1) D (upd H4 D (.lst (acc ++ [z]))) else Pv (i + 1) D H3) (hd : ∀ D H, Pv xs.length D H → Q (.ref D) H) : CompZT K g tt te ws σ [.ref a, .ref b] H Q := by
  refine ⟨a, b, xs, ys, rfl, .inr ⟨SqT.of ha, SqT.of hb, fun D hD => ⟨fun i m H => Pv i D H ∧ m + i = xs.length, ⟨xs.length, h0 D hD, rfl⟩, fun i m H ⟨q, em⟩ => ?_⟩⟩⟩
  obtain ⟨l1, l2⟩ := hl i D H q
  rcases Nat.lt_or_ge i xs.length with h | h
  · right
    have ex : xs[i]? = some xs[i] := List.getElem?_eq_getElem h
    have ey : ys[i]? = some (ys[i]'(by omega)) := List.getElem?_eq_getElem (by omega)
    refine ⟨⟨xs, ys, _, _, SqT.of l1, SqT.of l2, ex, ey⟩, Pv (i + 1) D, fun H' q' => ⟨m - 1, by omega, q', by omega⟩, ?_⟩
    rintro x H' ⟨T, x', y', rfl, hT, rfl, h1, h2⟩
    exact hs i x' y' D H T _ (h1 xs (SqT.of l1)) (h2 ys (SqT.of l2)) q hT (Same.new hT) upd_same
  · left
    obtain rfl : i = xs.length := by omega
    exact ⟨⟨xs, ys, SqT.of l1, SqT.of l2, .inl (Nat.le_refl _)⟩, hd D H q⟩
end
theorem w_notB {b c : Bool} {H : Hp} {Q : VK} (q : Q (.bl (!decide (b = c))) H) : rNotB (.bl b) (.bl c) H Q := ⟨b, c, rfl, rfl, q⟩
end L2.My

/-! W12: == of two tuples whose items an own == compares, with either answer. -/
namespace L2.My
open PySem PySem.SeqAt
open AutoSeq1 (wpAny_loadPart')
open MeetsSeq MeetsSeq2 MeetsSeq3 SeqRoads2
section
variable {P : Program} {w : World} {A : Around} {R : Result → Shared → Prop}
theorem tup_eqB (p q : Addr) (as bs : Array Value) (n m : Nat) (da db : Option Addr) (sa sb : Array (Option Value)) (sz : as.size = bs.size) (e : Nat → Bool) (v : Bool) (ev : (List.range as.size).all e = v) (J : Nat → Shared → Prop)
    (go : ∀ i (h1 : i < as.size) (h2 : i < bs.size) t, J i t → wpAny (model P w) A.in1 (eqBool as[i] bs[i]) (fun r t' => r = e i ∧ J (i + 1) t') (fun er t' => R (.error er) t') t)
    (out : ∀ i t, J i t → R (.ok (.ret (.bool v))) t) {s : Shared} (lp : s.heap.get? p = some { cls := .type "tuple", dict := da, data := .seq as n, slots := sa }) (lq : s.heap.get? q = some { cls := .type "tuple", dict := db, data := .seq bs m, slots := sb }) (start : J 0 s) :
    wpAny (model P w) A.in1 (Builtin.«tuple.__eq__» ⟨[.ref p, .ref q], []⟩) (GQ.FinOf P w A R) (fun er t' => R (.error er) t') s := by
  have sub2 := AutoSeq1.sub_tuple_tuple
  have zl : (as.toList.zip bs.toList).length = as.size := by simp [sz]
  have keep := start
  obtain ⟨hp, gg, dd, tk, os⟩ := s
  wp_walk using wpAny_loadPart' lp, wpAny_loadPart' lq, wpAny_forIn_list _ (fun rest st t => st.1 = none ∧ ∃ i, rest = (as.toList.zip bs.toList).drop i ∧ i ≤ as.size ∧ ((List.range as.size).drop i).all e = v ∧ J i t) _
  case turn =>
    rintro ⟨y, x⟩ rest st t ⟨no, i, ez, le, al, hJ⟩
    have lt : i < (as.toList.zip bs.toList).length := by
      refine Nat.lt_of_not_le fun z => ?_
      rw [List.drop_of_length_le z] at ez
      cases ez
    have h1 : i < as.size := zl ▸ lt
    have h2 : i < bs.size := sz ▸ h1
    rw [List.drop_eq_getElem_cons lt] at ez
    injection ez with e1 e2
    obtain rfl : y = as[i] := by simpa using congrArg Prod.fst e1
    obtain rfl : x = bs[i] := by simpa using congrArg Prod.snd e1
    rw [show (List.range as.size).drop i = i :: (List.range as.size).drop (i + 1) by simp [List.drop_eq_getElem_cons, h1], List.all_cons] at al
    refine wpAny_bind (wpAny_mono (go i h1 h2 t hJ) (fun r t2 z => ?_) fun _ _ z => z)
    obtain ⟨rfl, J2⟩ := z
    cases eb : e i with
    | true =>
      rw [eb, Bool.true_and] at al
      wp_walk
      exact ⟨rfl, i + 1, e2, h1, al, J2⟩
    | false =>
      have o := out _ _ J2
      rw [eb, Bool.false_and] at al
      subst al
      wp_walk
      exact o
  case fin =>
    rintro ⟨z1, z2⟩ t ⟨no, i, ez, le, al, hJ⟩
    simp only at no
    subst no
    have ge : as.size ≤ i := Nat.le_of_not_lt fun z => by
      rw [List.drop_eq_getElem_cons (by rw [zl]; exact z)] at ez
      cases ez
    rw [List.drop_of_length_le (by simpa using ge)] at al
    have o := out _ _ hJ
    rw [← al] at o
    wp_walk
    simpa [Builtin.Tuple.tupleCompareSizes, sz] using o
  case h => exact ⟨rfl, 0, rfl, Nat.zero_le _, by simpa using ev, keep⟩
end
open PySem.Spec PyProof.Rows
/-- what == says of two things, told -/
abbrev EqvB := V → V → Hp → Bool → Prop
def RcB (X : Cx) (n : Nat) (D : EqvB) : Prop :=
  ∀ (A : Around) (pins : List (Addr × Obj)) (s : Shared) (σ : L2.St) (H : Hp) (x y : V) (u v : Value) (b : Bool), Sub X n A → Inv X pins σ H s → RelV x u → RelV y v → D x y H b →
    wpAny (model X.prog X.w) A (richCompare .Eq u v) (fun r t => r = .bool b ∧ ∃ H', Inv X pins σ H' t ∧ Ext H H') X.xe s
def EqB (X : Cx) (n : Nat) (D : EqvB) : Prop :=
  ∀ (A : Around) (pins : List (Addr × Obj)) (s : Shared) (σ : L2.St) (H : Hp) (x y : V) (u v : Value) (b : Bool), Sub X n A → Inv X pins σ H s → RelV x u → RelV y v → D x y H b →
    wpAny (model X.prog X.w) A (eqBool u v) (fun r t => r = b ∧ ∃ H', Inv X pins σ H' t ∧ Ext H H') X.xe s
/-- instances of the class C: what its own == promises -/
def DInB (C : Addr) (R : Addr → Addr → Hp → Bool → Prop) : EqvB := fun x y H b => ∃ p q dx dy fs gs, x = .ref p ∧ y = .ref q ∧ H p = some (.ins C dx fs) ∧ H q = some (.ins C dy gs) ∧ R p q H b
section
variable {X : Cx} {n : Nat} {D : EqvB}
theorem rcB_ins {CX : CXT} {C f : Addr} {fd : FuncData} {ps : List Str} {R : Addr → Addr → Hp → Bool → Prop} {sp : Sp} {E : XK} (F : FnOk X.prog X.w X.K X.mg X.base CX n f fd ps sp)
    (keeps : ∀ p q H b, R p q H b → sp [.ref p, .ref q] H (fun z H' => z = .bl b ∧ Ext H H') E)
    (at_ : PySem.W.findIn X.K (.ref C) "__eq__" = some (some (.ref f))) (fn : PySem.W.isFn X.K (.ref f) = true) (bi : Binds X.K fd ps []) (px : Passes CX X E) : RcB X n (DInB C R) := by
  intro A pins s σ H x y u v b sub I rx ry ⟨p, q, dx, dy, fs, gs, ex, ey, hp, hq, hR⟩
  subst ex ey
  cases rx
  cases ry
  obtain ⟨m1, J, _⟩ := ins_get I.hok hp
  obtain ⟨m2, J', _⟩ := ins_get I.hok hq
  obtain ⟨od, J, _⟩ := J.look
  obtain ⟨od', J', _⟩ := J'.look
  obtain ⟨mm, hF⟩ := I.fr
  have want := keeps p q H b hR
  have lens := F.len _ _ _ _ want
  have env : Env0 X.prog X.w X.K X.mg X.base A X.stack s H := ⟨by rw [sub.fr]; exact I.env0.frames, I.env0.mod, I.env0.bs, I.env0.bsz, I.env0.funs, I.env0.frf, I.env0.hok, I.env0.bare⟩
  refine PySem.W.cmp_K (op := .Eq) (tb := .ref C) sub.room.units0 hF I.ok.mod.kin J J'.type (by simp [PySem.W.notFirst]) at_ fn ?_
  refine wpAny_call (codeAny_mono (F.run A X.stack s H ⟨[.ref p, .ref q], []⟩ [.ref p, .ref q] [.ref p, .ref q] _ E sub.room env (by simpa using bi s [.ref p, .ref q] I.kIn (by simpa using lens)) (.cons rfl (.cons rfl .nil)) want) fun r t hr => ?_)
  cases r with
  | error er => exact px pins σ H s er t I hr
  | ok fl =>
    cases fl with
    | ret z =>
      obtain ⟨z', H', I', rz, ez, ext⟩ := I.after hr
      subst ez
      cases rz
      exact ⟨rfl, H', I', ext⟩
    | next => exact hr.elim
    | brk => exact hr.elim
    | cont => exact hr.elim
theorem RcB.eqB (h : RcB X n D) (refs : ∀ x y H b, D x y H b → ∃ p q, x = .ref p ∧ y = .ref q) (self : ∀ p H b, D (.ref p) (.ref p) H b → b = true) : EqB X n D := by
  intro A pins s σ H x y u v b sub I rx ry d
  obtain ⟨p, q, ex, ey⟩ := refs _ _ _ _ d
  subst ex ey
  cases rx
  cases ry
  by_cases pq : p = q
  · subst pq
    rw [self _ _ _ d]
    exact SeqAt.EqAt.same (A := A) (s := s) (.ref p) X.prog X.w X.xe _ ⟨rfl, H, I, Ext.rfl'⟩
  · refine GQ.eqBool_refG pq (wpAny_mono (h A pins s σ H (.ref p) (.ref q) _ _ b sub I rfl rfl d) (fun r t z => ?_) fun _ _ z => z)
    exact ⟨b, z.1, rfl, z.2⟩
/-- tuples of two such items each -/
def DTwo (K : PySem.W.Frag) (D : EqvB) : EqvB := fun x y H b => ∃ p q x0 x1 y0 y1 b0 b1, x = .ref p ∧ y = .ref q ∧ SqT K H p [x0, x1] ∧ SqT K H q [y0, y1] ∧ D x0 y0 H b0 ∧ D x1 y1 H b1 ∧ b = (b0 && b1)
theorem rcB_two (mon : ∀ x y H H' b, Ext H H' → D x y H b → D x y H' b) (h : EqB X n D) : RcB X (n + 1) (DTwo X.K D) := by
  intro A pins s σ H x y u v b sub I rx ry ⟨p, q, x0, x1, y0, y1, b0, b1, ex, ey, hp, hq, d0, d1, eb⟩
  subst ex ey
  cases rx
  cases ry
  obtain ⟨its, r1, pl, -⟩ := I.tuple hp
  obtain ⟨its', r2, pl', -⟩ := I.tuple hq
  cases r1 with
  | cons ra r1 =>
    cases r1 with
    | cons rb r1 =>
      cases r1
      cases r2 with
      | cons rc r2 =>
        cases r2 with
        | cons rd r2 =>
          cases r2
          obtain ⟨⟨c1, e1, f1, g1⟩, ho, hc, k1, hd⟩ := id pl
          obtain ⟨⟨c2, e2, f2, g2⟩, ho2, hc2, k2, hd2⟩ := id pl'
          simp only at hc hd hc2 hd2
          subst hc hd hc2 hd2
          refine wpAny_richCompare_same_room (op := .Eq) ⟨_, ho, rfl⟩ ⟨_, ho2, rfl⟩ F.slot_tuple_eq (GQ.call_here F.slot_tuple_eq ⟨_, ho, rfl⟩ F.entry_tuple_eq (F.args_tuple_eq_2 _ _) ?_) sub.room.units0
          refine tup_eqB (R := wants (fun z t => z ≠ .notImplemented ∧ (z = .bool b ∧ ∃ H', Inv X pins σ H' t ∧ Ext H H')) X.xe) p q _ _ _ _ _ _ _ _ (by simp) (fun i => if i = 0 then b0 else b1) b ?_ (fun _ t => ∃ H', Inv X pins σ H' t ∧ Ext H H') ?_ ?_ ho ho2 ⟨H, I, Ext.rfl'⟩
          · rw [eb]
            show ((List.range 2).all _) = _
            simp [List.range_succ]
          · rintro i h1 h2 t ⟨H1, I1, x1'⟩
            have hi : i = 0 ∨ i = 1 := by have : i < 2 := h1; omega
            rcases hi with rfl | rfl
            · refine wpAny_mono (h A.in1 pins t σ H1 x0 y0 _ _ b0 sub.in1 I1 ra rc (mon _ _ _ _ _ x1' d0)) (fun r t' z => ?_) fun _ _ z => z
              obtain ⟨z1, H2, I2, x2⟩ := z
              exact ⟨z1, H2, I2, x1'.trans x2⟩
            · refine wpAny_mono (h A.in1 pins t σ H1 x1 y1 _ _ b1 sub.in1 I1 rb rd (mon _ _ _ _ _ x1' d1)) (fun r t' z => ?_) fun _ _ z => z
              obtain ⟨z1, H2, I2, x2⟩ := z
              exact ⟨z1, H2, I2, x1'.trans x2⟩
          · exact fun i t z => ⟨fun y => (nomatch y), rfl, z⟩
/-- x == y -/
def rEqB (D : EqvB) : R2 := fun x y H Q => ∃ b, D x y H b ∧ ∀ H', Ext H H' → Q (.bl b) H'
theorem op_eqB (h : RcB X n D) (hr : Room n X.A) : OpR X (compareOp .Eq) (rEqB D) := by
  intro pins s σ H x y v u Q I rx ry ⟨b, d, q⟩
  show wpAny (model X.prog X.w) X.A (richCompare .Eq v u) (EP X pins σ Q) X.xe s
  refine wpAny_mono (h X.A pins s σ H x y v u b ⟨hr, rfl⟩ I rx ry d) (fun r t z => ?_) fun _ _ z => z
  obtain ⟨z1, H', I', e⟩ := z
  subst z1
  exact ⟨.bl b, H', I', rfl, q H' e⟩
end
end L2.My

/-! W13: == of tuples of two instances by their own ==, of tuples with the same things in them. -/
namespace L2.My
open PySem PySem.Spec PyProof.Rows
section
variable {X : Cx} {n j k : Nat}
theorem RcB.mono' {D : EqvB} (h : RcB X n D) (l : n ≤ j) : RcB X j D := fun A pins s σ H x y u v b sb => h A pins s σ H x y u v b (sb.mono l)
theorem op_eqTwo {C : Addr} {ps : List Str} {sp : Sp} {E : XK} {R : Addr → Addr → Hp → Bool → Prop} (h : HasM X.prog X.w X.K X.mg X.base C "__eq__" k ps sp) (hr : Room j X.A) (hx : Passes (L2.CX X.prog X.w) X E)
    (keeps : ∀ p q H b, R p q H b → sp [.ref p, .ref q] H (fun z H' => z = .bl b ∧ Ext H H') E) (mon : ∀ p q H H' b, Ext H H' → R p q H b → R p q H' b) (self : ∀ p H b, R p p H b → b = true) (hj : k + 1 ≤ j := by decide) :
    OpR X (compareOp .Eq) (rEqB (DTwo X.K (DInB C R))) := by
  obtain ⟨f, fd, Fo, hm, hb⟩ := h
  have r1 : RcB X k (DInB C R) := rcB_ins Fo keeps hm.at_ hm.fn hb hx
  have r2 : EqB X k (DInB C R) := r1.eqB (fun x y H b d => by obtain ⟨p, q, _, _, _, _, e1, e2, _⟩ := d; exact ⟨p, q, e1, e2⟩) (fun p H b d => by
    obtain ⟨p', q', _, _, _, _, e1, e2, _, _, r⟩ := d
    cases e1
    cases e2
    exact self _ _ _ r)
  refine op_eqB (rcB_two (fun x y H H' b e d => ?_) r2) (hr.mono hj)
  obtain ⟨p, q, dx, dy, fs, gs, e1, e2, h1, h2, r⟩ := d
  exact ⟨p, q, dx, dy, fs, gs, e1, e2, e _ _ h1, e _ _ h2, mon _ _ _ _ _ e r⟩
/-- flat and equal, or the same object -/
def DSame : Eqv := fun x y H => DFlat x y H ∨ ∃ a, x = .ref a ∧ y = .ref a
theorem mon_same : Mon DSame := fun _ _ _ _ _ d => d
theorem eqG_same : EqG X 0 DSame := fun A pins s σ H x y u v sb I rx ry d => by
  rcases d with d | ⟨a, e1, e2⟩
  · exact eqG_flat A pins s σ H x y u v sb I rx ry d
  · subst e1 e2
    cases rx
    cases ry
    exact SeqAt.EqAt.same (A := A) (s := s) (.ref a) X.prog X.w X.xe _ ⟨rfl, H, I, Ext.rfl'⟩
theorem op_eqSame (hr : Room 1 X.A) : OpR X (compareOp .Eq) (rEqG (DTup X.K DSame)) := op_eqG (rcG_tup mon_same eqG_same) hr
/-- (text, thing) == (text, thing) -/
theorem w_eqSame2 {K : PySem.W.Frag} {p q : Addr} {s : Str} {v : V} {H : Hp} {Q : VK} (h1 : H p = some (.tup [.str s, v])) (h2 : H q = some (.tup [.str s, v])) (hv : (∃ a, v = .ref a) ∨ v = .non ∨ ∃ k, v = .int k) (q' : ∀ H', Ext H H' → Q (.bl true) H') : rEqG (DTup K DSame) (.ref p) (.ref q) H Q := by
  refine ⟨⟨p, q, _, _, rfl, rfl, SqT.of h1, SqT.of h2, .cons (.inl ⟨rfl, rfl, by simp [eqV]⟩) (.cons ?_ .nil)⟩, q'⟩
  rcases hv with ⟨a, rfl⟩ | rfl | ⟨k, rfl⟩
  · exact .inr ⟨a, rfl, rfl⟩
  · exact .inl ⟨rfl, rfl, rfl⟩
  · exact .inl ⟨rfl, rfl, by simp [eqV]⟩
end
end L2.My

/-! W14: the signs of t + r * the square root of 2, by whole numbers p, q with p * p = 2 * q * q + 1 far enough out: t * q + r * p has the same sign. -/
namespace L2.My
/-- the sign of t + r * the square root of 2 -/
def sg2 (t r : Int) : Int :=
  if t = 0 ∧ r = 0 then 0 else if 0 ≤ t ∧ 0 ≤ r then 1 else if t ≤ 0 ∧ r ≤ 0 then -1 else if t * t > 2 * r * r then (if 0 < t then 1 else -1) else if 0 < r then 1 else -1
structure Pell (p q : Int) : Prop where
  e : p * p = 2 * (q * q) + 1
  p : 0 < p
  q : 0 < q
theorem sq_le {x y : Int} (hx : 0 ≤ x) (h : x ≤ y) : x * x ≤ y * y := Int.mul_le_mul h h hx (by omega)
theorem sq_lt_of {x y : Int} (hy : 0 ≤ y) (h : x * x < y * y) : x < y := by
  refine Int.not_le.mp fun z => ?_
  have := sq_le hy z
  omega
theorem Pell.next {p q : Int} (h : Pell p q) : Pell (3 * p + 4 * q) (2 * p + 3 * q) := by
  obtain ⟨e, hp, hq⟩ := h
  exact ⟨by grind, by omega, by omega⟩
theorem pell_far (n : Nat) : ∃ p q, Pell p q ∧ (n : Int) < q := by
  induction n with
  | zero => exact ⟨3, 2, ⟨by decide, by decide, by decide⟩, by decide⟩
  | succ n ih =>
    obtain ⟨p, q, h, l⟩ := ih
    have := h.p
    exact ⟨_, _, h.next, by omega⟩
theorem Pell.lo {p q : Int} (h : Pell p q) : 7 * q < 5 * p := by
  have := h.e
  have := h.p
  have := h.q
  refine sq_lt_of (by omega) ?_
  have h2 : 0 < q * q := Int.mul_pos h.q h.q
  have e1 : 7 * q * (7 * q) = 49 * (q * q) := by grind
  have e2 : 5 * p * (5 * p) = 25 * (p * p) := by grind
  omega
theorem Pell.hi {p q : Int} (h : Pell p q) : 2 * p ≤ 3 * q := by
  have := h.e
  have := h.p
  have := h.q
  refine Int.not_lt.mp fun z => ?_
  have h2 := sq_le (x := 3 * q + 1) (y := 2 * p) (by omega) (by omega)
  have e1 : (3 * q + 1) * (3 * q + 1) = 9 * (q * q) + 6 * q + 1 := by grind
  have e2 : 2 * p * (2 * p) = 4 * (p * p) := by grind
  have h3 : 0 < q * q := Int.mul_pos h.q h.q
  have h4 : 1 * q ≤ q * q := Int.mul_le_mul_of_nonneg_right (by omega) (by omega)
  omega
/-- the signs are told by the whole number -/
theorem sg2_pell {t r p q : Int} (h : Pell p q) (hr : (r.natAbs : Int) < q) : (0 < t * q + r * p → sg2 t r = 1) ∧ (t * q + r * p < 0 → sg2 t r = -1) ∧ (t * q + r * p = 0 → t = 0 ∧ r = 0) := by
  obtain ⟨e, hp, hq⟩ := h
  have r2 : r * r < q * q := by
    have : (r.natAbs : Int) * r.natAbs = r * r := by
      rw [← Int.natCast_mul, Int.natAbs_mul_self]
    have l := sq_le (x := (r.natAbs : Int)) (y := q - 1) (by omega) (by omega)
    have e1 : (q - 1) * (q - 1) = q * q - 2 * q + 1 := by grind
    omega
  have r0 : 0 ≤ r * r := by
    rcases Int.le_total 0 r with h | h
    · exact Int.mul_nonneg h h
    · exact Int.mul_nonneg_of_nonpos_of_nonpos h h
  have key : (t * q) * (t * q) - (r * p) * (r * p) = (t * t - 2 * (r * r)) * (q * q) - r * r := by
    have e2 : (r * p) * (r * p) = r * r * (2 * (q * q) + 1) := by rw [← e]; grind
    rw [e2]
    grind
  have qq : 0 < q * q := Int.mul_pos hq hq
  unfold sg2
  by_cases c0 : t = 0 ∧ r = 0
  · obtain ⟨rfl, rfl⟩ := c0
    simp
  rw [if_neg c0]
  by_cases c1 : 0 ≤ t ∧ 0 ≤ r
  · rw [if_pos c1]
    have a1 : 0 ≤ t * q := Int.mul_nonneg c1.1 (by omega)
    have a2 : 0 ≤ r * p := Int.mul_nonneg c1.2 (by omega)
    have a3 : 0 < t * q + r * p := by
      rcases (show 0 < t ∨ 0 < r by omega) with z | z
      · have := Int.mul_pos z hq
        omega
      · have := Int.mul_pos z hp
        omega
    exact ⟨fun _ => rfl, fun z => by omega, fun z => by omega⟩
  rw [if_neg c1]
  by_cases c2 : t ≤ 0 ∧ r ≤ 0
  · rw [if_pos c2]
    have a1 : 0 ≤ -t * q := Int.mul_nonneg (by omega) (by omega)
    have a2 : 0 ≤ -r * p := Int.mul_nonneg (by omega) (by omega)
    have a3 : 0 < -t * q + -r * p := by
      rcases (show 0 < -t ∨ 0 < -r by omega) with z | z
      · have := Int.mul_pos z hq
        omega
      · have := Int.mul_pos z hp
        omega
    rw [Int.neg_mul] at a1 a3
    rw [Int.neg_mul] at a2 a3
    exact ⟨fun z => by omega, fun _ => rfl, fun z => by omega⟩
  rw [if_neg c2]
  have a5 : 2 * r * r = 2 * (r * r) := Int.mul_assoc _ _ _
  by_cases c3 : t * t > 2 * r * r
  · rw [if_pos c3]
    have b1 : q * q ≤ (t * t - 2 * (r * r)) * (q * q) := by
      have := Int.mul_le_mul_of_nonneg_right (a := 1) (b := t * t - 2 * (r * r)) (c := q * q) (by omega) (by omega)
      omega
    by_cases c4 : 0 < t
    · rw [if_pos c4]
      have p1 : 0 < t * q := Int.mul_pos c4 hq
      have b2 : -(r * p) < t * q := sq_lt_of (by omega) (by rw [Int.neg_mul_neg]; omega)
      exact ⟨fun _ => rfl, fun z => by omega, fun z => by omega⟩
    · rw [if_neg c4]
      have p1 : 0 < -t * q := Int.mul_pos (by
        refine Int.not_le.mp fun z => ?_
        have : t = 0 := by omega
        subst this
        omega) hq
      have b2 : r * p < -t * q := sq_lt_of (by omega) (by rw [Int.neg_mul, Int.neg_mul_neg]; omega)
      rw [Int.neg_mul] at b2
      exact ⟨fun z => by omega, fun _ => rfl, fun z => by omega⟩
  · rw [if_neg c3]
    have d1 : t * t < 2 * (r * r) ∨ t * t = 2 * (r * r) := by omega
    have rn : r ≠ 0 := by
      intro z
      subst z
      simp only [Int.mul_zero] at d1
      rcases Int.lt_or_gt_of_ne (show t ≠ 0 from fun y => c0 ⟨y, rfl⟩) with z | z
      · have := Int.mul_pos_of_neg_of_neg z z
        omega
      · have := Int.mul_pos z z
        omega
    have b1 : (t * t - 2 * (r * r)) * (q * q) ≤ 0 := Int.mul_nonpos_of_nonpos_of_nonneg (by omega) (by omega)
    have rr : 0 < r * r := by
      rcases Int.lt_or_gt_of_ne rn with z | z
      · exact Int.mul_pos_of_neg_of_neg z z
      · exact Int.mul_pos z z
    by_cases c4 : 0 < r
    · rw [if_pos c4]
      have p1 : 0 < r * p := Int.mul_pos c4 hp
      have b2 : -(t * q) < r * p := sq_lt_of (by omega) (by rw [Int.neg_mul_neg]; omega)
      exact ⟨fun _ => rfl, fun z => by omega, fun z => by omega⟩
    · rw [if_neg c4]
      have p1 : 0 < -r * p := Int.mul_pos (by omega) hp
      have b2 : t * q < -r * p := sq_lt_of (by omega) (by rw [Int.neg_mul, Int.neg_mul_neg]; omega)
      rw [Int.neg_mul] at b2
      exact ⟨fun z => by omega, fun _ => rfl, fun z => by omega⟩
theorem sg2_pos {t r p q : Int} (h : Pell p q) (hr : (r.natAbs : Int) < q) : 0 < sg2 t r ↔ 0 < t * q + r * p := by
  obtain ⟨a, b, c⟩ := sg2_pell (t := t) h hr
  constructor
  · intro z
    rcases (show 0 < t * q + r * p ∨ t * q + r * p < 0 ∨ t * q + r * p = 0 by omega) with y | y | y
    · exact y
    · rw [b y] at z
      omega
    · obtain ⟨rfl, rfl⟩ := c y
      simp [sg2] at z
  · intro z
    rw [a z]
    decide
theorem nat_sqr2 : ∀ m n : Nat, m * m = 2 * (n * n) → n = 0 := by
  intro m
  induction m using Nat.strongRecOn with
  | ind m ih =>
    intro n h
    rcases Nat.eq_zero_or_pos n with h0 | h0
    · exact h0
    have hn : n < m := by
      rcases Nat.lt_or_ge n m with q | q
      · exact q
      · have := Nat.mul_le_mul q q
        have : 0 < n * n := Nat.mul_pos h0 h0
        omega
    have he : m % 2 = 0 := by
      rcases Nat.mod_two_eq_zero_or_one m with q | q
      · exact q
      · have : m * m % 2 = 1 := by rw [Nat.mul_mod, q]
        omega
    obtain ⟨k, rfl⟩ : ∃ k, m = 2 * k := ⟨m / 2, by omega⟩
    have h2 : n * n = 2 * (k * k) := by
      have : 2 * k * (2 * k) = 4 * (k * k) := by grind
      omega
    have hk := ih n hn k h2
    subst hk
    simp at h2
    rcases Nat.mul_eq_zero.mp h2 with q | q <;> exact q
/-- the square root of 2 is no fraction -/
theorem sqr2 {t r : Int} (h : t * t - 2 * r * r = 0) : t = 0 ∧ r = 0 := by
  have e : t.natAbs * t.natAbs = 2 * (r.natAbs * r.natAbs) := by
    have h1 : ((t.natAbs * t.natAbs : Nat) : Int) = t * t := Int.natAbs_mul_self
    have h2 : ((r.natAbs * r.natAbs : Nat) : Int) = r * r := Int.natAbs_mul_self
    have h3 : 2 * r * r = 2 * (r * r) := Int.mul_assoc ..
    omega
  have hr := nat_sqr2 _ _ e
  rw [hr] at e
  simp at e
  have h0 : t.natAbs = 0 := by rcases Nat.mul_eq_zero.mp e with q | q <;> exact q
  exact ⟨by omega, by omega⟩
/-! ### the window of a floor, told over the half of a common bottom -/
def wit (x y w o : Int) : Bool := decide (0 < sg2 (w - x) (o - y)) && decide (0 < sg2 (w + x) (o + y))
def winB (h a b c e : Int) : Bool := wit a b h h && (wit c e h h && (wit (a + c) (b + e) (2 * h) h && wit (a - c) (b - e) (2 * h) h))
/-- the window, linear -/
structure WinL (X Y U V : Int) : Prop where
  x1 : X < U + V
  x2 : -(U + V) < X
  y1 : Y < U + V
  y2 : -(U + V) < Y
  s1 : X + Y < 2 * U + V
  s2 : -(2 * U + V) < X + Y
  d1 : X - Y < 2 * U + V
  d2 : -(2 * U + V) < X - Y
theorem wit_pell {x y w o p q : Int} (P : Pell p q) (hr : (y.natAbs : Int) + o.natAbs < q) : wit x y w o = true ↔ x * q + y * p < w * q + o * p ∧ -(w * q + o * p) < x * q + y * p := by
  unfold wit
  rw [Bool.and_eq_true, decide_eq_true_eq, decide_eq_true_eq, sg2_pos P (by omega), sg2_pos P (by omega)]
  simp only [Int.sub_mul, Int.add_mul]
  constructor
  · intro h
    omega
  · intro h
    omega
theorem win_pell {h a b c e p q : Int} (P : Pell p q) (hr : (b.natAbs : Int) + e.natAbs + h.natAbs < q) : winB h a b c e = true ↔ WinL (a * q + b * p) (c * q + e * p) (h * q) (h * p) := by
  unfold winB
  rw [Bool.and_eq_true, Bool.and_eq_true, Bool.and_eq_true, wit_pell P (by omega), wit_pell P (by omega), wit_pell P (by omega), wit_pell P (by omega)]
  simp only [Int.sub_mul, Int.add_mul, Int.mul_assoc]
  constructor
  · rintro ⟨⟨h1, h2⟩, ⟨h3, h4⟩, ⟨h5, h6⟩, h7, h8⟩
    exact ⟨by omega, by omega, by omega, by omega, by omega, by omega, by omega, by omega⟩
  · rintro ⟨h1, h2, h3, h4, h5, h6, h7, h8⟩
    omega
/-- from each point of the window one of four steps stays in it -/
theorem win_side {h a b c e : Int} (hh : 0 < h) (w : winB h a b c e = true) : winB h (a + 2 * h) b c e = true ∨ winB h (a - 2 * h) b c e = true ∨ winB h a b (c + 2 * h) e = true ∨ winB h a b (c - 2 * h) e = true := by
  obtain ⟨p, q, P, far⟩ := pell_far (b.natAbs + e.natAbs + h.natAbs)
  rw [win_pell P (by omega)] at w
  rw [win_pell P (by omega), win_pell P (by omega), win_pell P (by omega), win_pell P (by omega)]
  have lo := P.lo
  have hi := P.hi
  have u1 : 0 < h * q := Int.mul_pos hh P.q
  have u2 : 0 < h * (5 * p - 7 * q) := Int.mul_pos hh (by omega)
  rw [Int.mul_sub, ← Int.mul_assoc, ← Int.mul_assoc, Int.mul_comm h 5, Int.mul_comm h 7, Int.mul_assoc, Int.mul_assoc] at u2
  simp only [Int.sub_mul, Int.add_mul, Int.mul_assoc]
  obtain ⟨h1, h2, h3, h4, h5, h6, h7, h8⟩ := w
  by_cases k1 : c * q + e * p ≤ a * q + b * p
  · by_cases k2 : -(c * q + e * p) ≤ a * q + b * p
    · exact .inr (.inl ⟨by omega, by omega, by omega, by omega, by omega, by omega, by omega, by omega⟩)
    · exact .inr (.inr (.inl ⟨by omega, by omega, by omega, by omega, by omega, by omega, by omega, by omega⟩))
  · by_cases k2 : -(c * q + e * p) ≤ a * q + b * p
    · exact .inr (.inr (.inr ⟨by omega, by omega, by omega, by omega, by omega, by omega, by omega, by omega⟩))
    · exact .inl ⟨by omega, by omega, by omega, by omega, by omega, by omega, by omega, by omega⟩
/-! ### three directions one behind the other: one of them is a side -/
section
variable {X Y U V : Int}
theorem WinL.out (n : ¬ WinL X Y U V) : U + V ≤ X ∨ X ≤ -(U + V) ∨ U + V ≤ Y ∨ Y ≤ -(U + V) ∨ 2 * U + V ≤ X + Y ∨ X + Y ≤ -(2 * U + V) ∨ 2 * U + V ≤ X - Y ∨ X - Y ≤ -(2 * U + V) := by
  refine Classical.byContradiction fun h => n ?_
  exact ⟨by omega, by omega, by omega, by omega, by omega, by omega, by omega, by omega⟩
theorem WinL.out0 (w : WinL X Y U V) (u : 0 < U) (v : 0 < V) (n : ¬ WinL (X + 2 * U) Y U V) : U + V ≤ X + 2 * U ∨ 2 * U + V ≤ X + 2 * U + Y ∨ 2 * U + V ≤ X + 2 * U - Y := by
  obtain ⟨h1, h2, h3, h4, h5, h6, h7, h8⟩ := w
  have := WinL.out n
  omega
theorem WinL.out1 (w : WinL X Y U V) (u : 0 < U) (v : 0 < V) (n : ¬ WinL (X - V) (Y + V) U V) : X - V ≤ -(U + V) ∨ U + V ≤ Y + V ∨ X - Y - 2 * V ≤ -(2 * U + V) := by
  obtain ⟨h1, h2, h3, h4, h5, h6, h7, h8⟩ := w
  have := WinL.out n
  omega
theorem WinL.out2 (w : WinL X Y U V) (u : 0 < U) (v : 0 < V) (n : ¬ WinL X (Y - 2 * U) U V) : Y - 2 * U ≤ -(U + V) ∨ X + Y - 2 * U ≤ -(2 * U + V) ∨ 2 * U + V ≤ X - Y + 2 * U := by
  obtain ⟨h1, h2, h3, h4, h5, h6, h7, h8⟩ := w
  have := WinL.out n
  omega
theorem WinL.out3 (w : WinL X Y U V) (u : 0 < U) (v : 0 < V) (n : ¬ WinL (X + V) (Y + V) U V) : U + V ≤ X + V ∨ U + V ≤ Y + V ∨ 2 * U + V ≤ X + Y + 2 * V := by
  obtain ⟨h1, h2, h3, h4, h5, h6, h7, h8⟩ := w
  have := WinL.out n
  omega
theorem WinL.out4 (w : WinL X Y U V) (u : 0 < U) (v : 0 < V) (n : ¬ WinL (X - 2 * U) Y U V) : X - 2 * U ≤ -(U + V) ∨ X - 2 * U + Y ≤ -(2 * U + V) ∨ X - 2 * U - Y ≤ -(2 * U + V) := by
  obtain ⟨h1, h2, h3, h4, h5, h6, h7, h8⟩ := w
  have := WinL.out n
  omega
theorem WinL.out5 (w : WinL X Y U V) (u : 0 < U) (v : 0 < V) (n : ¬ WinL (X + V) (Y - V) U V) : U + V ≤ X + V ∨ Y - V ≤ -(U + V) ∨ 2 * U + V ≤ X - Y + 2 * V := by
  obtain ⟨h1, h2, h3, h4, h5, h6, h7, h8⟩ := w
  have := WinL.out n
  omega
theorem WinL.out6 (w : WinL X Y U V) (u : 0 < U) (v : 0 < V) (n : ¬ WinL X (Y + 2 * U) U V) : U + V ≤ Y + 2 * U ∨ 2 * U + V ≤ X + Y + 2 * U ∨ X - Y - 2 * U ≤ -(2 * U + V) := by
  obtain ⟨h1, h2, h3, h4, h5, h6, h7, h8⟩ := w
  have := WinL.out n
  omega
theorem WinL.out7 (w : WinL X Y U V) (u : 0 < U) (v : 0 < V) (n : ¬ WinL (X - V) (Y - V) U V) : X - V ≤ -(U + V) ∨ Y - V ≤ -(U + V) ∨ X + Y - 2 * V ≤ -(2 * U + V) := by
  obtain ⟨h1, h2, h3, h4, h5, h6, h7, h8⟩ := w
  have := WinL.out n
  omega
theorem WinL.gap0 (w : WinL X Y U V) (u : 0 < U) (lo : 7 * U < 5 * V) (hi : 2 * V ≤ 3 * U) : WinL (X + 2 * U) Y U V ∨ WinL (X - V) (Y + V) U V ∨ WinL X (Y - 2 * U) U V := by
  refine Classical.byContradiction fun h => ?_
  have a := w.out0 u (by omega) fun z => h (.inl z)
  have b := w.out1 u (by omega) fun z => h (.inr (.inl z))
  have c := w.out2 u (by omega) fun z => h (.inr (.inr z))
  obtain ⟨h1, h2, h3, h4, h5, h6, h7, h8⟩ := w
  omega
theorem WinL.gap1 (w : WinL X Y U V) (u : 0 < U) (lo : 7 * U < 5 * V) (hi : 2 * V ≤ 3 * U) : WinL (X - V) (Y + V) U V ∨ WinL X (Y - 2 * U) U V ∨ WinL (X + V) (Y + V) U V := by
  refine Classical.byContradiction fun h => ?_
  have a := w.out1 u (by omega) fun z => h (.inl z)
  have b := w.out2 u (by omega) fun z => h (.inr (.inl z))
  have c := w.out3 u (by omega) fun z => h (.inr (.inr z))
  obtain ⟨h1, h2, h3, h4, h5, h6, h7, h8⟩ := w
  omega
theorem WinL.gap2 (w : WinL X Y U V) (u : 0 < U) (lo : 7 * U < 5 * V) (hi : 2 * V ≤ 3 * U) : WinL X (Y - 2 * U) U V ∨ WinL (X + V) (Y + V) U V ∨ WinL (X - 2 * U) Y U V := by
  refine Classical.byContradiction fun h => ?_
  have a := w.out2 u (by omega) fun z => h (.inl z)
  have b := w.out3 u (by omega) fun z => h (.inr (.inl z))
  have c := w.out4 u (by omega) fun z => h (.inr (.inr z))
  obtain ⟨h1, h2, h3, h4, h5, h6, h7, h8⟩ := w
  omega
theorem WinL.gap3 (w : WinL X Y U V) (u : 0 < U) (lo : 7 * U < 5 * V) (hi : 2 * V ≤ 3 * U) : WinL (X + V) (Y + V) U V ∨ WinL (X - 2 * U) Y U V ∨ WinL (X + V) (Y - V) U V := by
  refine Classical.byContradiction fun h => ?_
  have a := w.out3 u (by omega) fun z => h (.inl z)
  have b := w.out4 u (by omega) fun z => h (.inr (.inl z))
  have c := w.out5 u (by omega) fun z => h (.inr (.inr z))
  obtain ⟨h1, h2, h3, h4, h5, h6, h7, h8⟩ := w
  omega
theorem WinL.gap4 (w : WinL X Y U V) (u : 0 < U) (lo : 7 * U < 5 * V) (hi : 2 * V ≤ 3 * U) : WinL (X - 2 * U) Y U V ∨ WinL (X + V) (Y - V) U V ∨ WinL X (Y + 2 * U) U V := by
  refine Classical.byContradiction fun h => ?_
  have a := w.out4 u (by omega) fun z => h (.inl z)
  have b := w.out5 u (by omega) fun z => h (.inr (.inl z))
  have c := w.out6 u (by omega) fun z => h (.inr (.inr z))
  obtain ⟨h1, h2, h3, h4, h5, h6, h7, h8⟩ := w
  omega
theorem WinL.gap5 (w : WinL X Y U V) (u : 0 < U) (lo : 7 * U < 5 * V) (hi : 2 * V ≤ 3 * U) : WinL (X + V) (Y - V) U V ∨ WinL X (Y + 2 * U) U V ∨ WinL (X - V) (Y - V) U V := by
  refine Classical.byContradiction fun h => ?_
  have a := w.out5 u (by omega) fun z => h (.inl z)
  have b := w.out6 u (by omega) fun z => h (.inr (.inl z))
  have c := w.out7 u (by omega) fun z => h (.inr (.inr z))
  obtain ⟨h1, h2, h3, h4, h5, h6, h7, h8⟩ := w
  omega
theorem WinL.gap6 (w : WinL X Y U V) (u : 0 < U) (lo : 7 * U < 5 * V) (hi : 2 * V ≤ 3 * U) : WinL X (Y + 2 * U) U V ∨ WinL (X - V) (Y - V) U V ∨ WinL (X + 2 * U) Y U V := by
  refine Classical.byContradiction fun h => ?_
  have a := w.out6 u (by omega) fun z => h (.inl z)
  have b := w.out7 u (by omega) fun z => h (.inr (.inl z))
  have c := w.out0 u (by omega) fun z => h (.inr (.inr z))
  obtain ⟨h1, h2, h3, h4, h5, h6, h7, h8⟩ := w
  omega
theorem WinL.gap7 (w : WinL X Y U V) (u : 0 < U) (lo : 7 * U < 5 * V) (hi : 2 * V ≤ 3 * U) : WinL (X - V) (Y - V) U V ∨ WinL (X + 2 * U) Y U V ∨ WinL (X - V) (Y + V) U V := by
  refine Classical.byContradiction fun h => ?_
  have a := w.out7 u (by omega) fun z => h (.inl z)
  have b := w.out0 u (by omega) fun z => h (.inr (.inl z))
  have c := w.out1 u (by omega) fun z => h (.inr (.inr z))
  obtain ⟨h1, h2, h3, h4, h5, h6, h7, h8⟩ := w
  omega
end
end L2.My

/-! W15: a op1 b op2 c op3 d. -/
namespace L2.My
open PySem PySem.Spec PyProof.Rows
section
variable {X : Cx} {a b c d : Expr} {ta tb tc td : TE} {pos : Pos}
/-- a op1 b op2 c op3 d -/
def tChain3 (r r' r'' : R2) (ta tb tc td : TE) : TE := fun σ H Q => ta σ H fun x H1 => tb σ H1 fun y H2 => r x y H2 fun z H3 => ∃ k, z = .bl k ∧
  (if k = true then tc σ H3 fun w' H4 => r' y w' H4 fun z2 H5 => ∃ k2, z2 = .bl k2 ∧ (if k2 = true then td σ H5 fun w'' H6 => r'' w' w'' H6 Q else Q (.bl false) H5) else Q (.bl false) H3)
theorem w_chain3 {r r' r'' : R2} {σ : L2.St} {H : Hp} {Q : VK} (q : ta σ H fun x H1 => tb σ H1 fun y H2 => r x y H2 fun z H3 => ∃ k, z = .bl k ∧
  (if k = true then tc σ H3 fun w' H4 => r' y w' H4 fun z2 H5 => ∃ k2, z2 = .bl k2 ∧ (if k2 = true then td σ H5 fun w'' H6 => r'' w' w'' H6 Q else Q (.bl false) H5) else Q (.bl false) H3)) : tChain3 r r' r'' ta tb tc td σ H Q := q
theorem pe_chain3 {op op' op'' : CmpOp} {r r' r'' : R2} (ho : OpR X (compareOp op) r) (ho' : OpR X (compareOp op') r') (ho'' : OpR X (compareOp op'') r'') (ha : PE X a ta) (hb : PE X b tb) (hc : PE X c tc) (hd : PE X d td)
    (hm : lastMarks [op, op', op''] [b, c, d] = false := by with_unfolding_all rfl) : PE X (.Compare a [op, op', op''] [b, c, d] pos) (tChain3 r r' r'' ta tb tc td) := by
  refine ⟨fun pins s σ H Q I h => ?_⟩
  refine Compare_chain (thn (ha.run pins s σ H _ I h) fun v s1 ⟨x, H1, I1, r1, q1⟩ => chain_link (thn (hb.run pins s1 σ H1 _ I1 q1) fun u s2 ⟨y, H2, I2, r2, q2⟩ =>
    thn (ho pins s2 σ H2 x y v u _ I2 r1 r2 q2) fun d s3 ⟨z, H3, I3, r3, k, e, q3⟩ => ?_)) hm
  subst e
  cases r3
  refine wpAny_truthy_bool ?_
  cases k with
  | false => exact ite_ff ⟨.bl false, H3, I3, rfl, q3⟩
  | true =>
    refine ite_tt (chain_link (thn (hc.run pins s3 σ H3 _ I3 q3) fun w1 s4 ⟨y2, H4, I4, r4, q4⟩ => thn (ho' pins s4 σ H4 y y2 u w1 _ I4 r2 r4 q4) fun d2 s5 ⟨z2, H5, I5, r5, k2, e2, q5⟩ => ?_))
    subst e2
    cases r5
    refine wpAny_truthy_bool ?_
    cases k2 with
    | false => exact ite_ff ⟨.bl false, H5, I5, rfl, q5⟩
    | true => exact ite_tt (chain_last (thn (hd.run pins s5 σ H5 _ I5 q5) fun w2 s6 ⟨y3, H6, I6, r6, q6⟩ => ho'' pins s6 σ H6 y2 y3 w1 w2 Q I6 r4 r6 q6))
end
/-! ### rules with the fragment told: a comprehension's context bears its own variables -/
theorem sl_tupZ {X : Cx} {K : PySem.W.Frag} (h : X.K = K) : SlR X (rSlA K) := by
  subst h
  exact sl_tupA
theorem op_catZ {X : Cx} {K : PySem.W.Frag} (h : X.K = K) : OpR X (binaryOp .Add) (rCatA K) := by
  subst h
  exact op_catA
theorem room65 {k : Nat} {A : Around} (r : Room k A) : A.units + 65 < cLine := by
  have := r.un
  omega
/-! ### walks over a list or a tuple -/
section
variable {X : Cx} {tg l : Expr} {w w' : TI} {tl : TE} {g : TG} {tb : TS} {D : Ends} {tt : TT} {te : TE} {ws : List Nat} {σ : L2.St} {H : Hp} {Q : VK}
def iOr (w w' : TI) : TI := fun σ H R => w σ H R ∨ w' σ H R
theorem PI.or (h : PI X tg l w) (h' : PI X tg l w') : PI X tg l (iOr w w') := ⟨fun pins s σ H R I q => q.elim (h.run pins s σ H R I) (h'.run pins s σ H R I)⟩
theorem pi_seq (hl : PE X l tl) : PI X tg l (iOr (iList X.K tl) (iTup X.K tl)) := PI.or (pi_list hl) (pi_tup hl)
theorem w_forOL (q : tFor w g tb D σ H) : tFor (iOr w w') g tb D σ H := .inl q
theorem w_forOT (q : tFor w' g tb D σ H) : tFor (iOr w w') g tb D σ H := .inr q
theorem w_lcOL (q : tLc w g tt te ws σ H Q) : tLc (iOr w w') g tt te ws σ H Q := .inl q
theorem w_lcOT (q : tLc w' g tt te ws σ H Q) : tLc (iOr w w') g tt te ws σ H Q := .inr q
end
end L2.My

/-! W16: fields in a comprehension. -/
namespace L2.My
open PySem PySem.Spec PyProof.Rows
section
variable {X : Cx} {e : Expr} {ta : TE} {pos : Pos} {f : Str} {K : PySem.W.Frag}
theorem pe_fldZ (h : X.K = K) (he : PE X e ta) (hb : attributeBase e f X.env (eval e X.env) = eval e X.env) : PE X (.Attribute e f pos) (tFld K ta f) := h ▸ pe_fld he hb
end
end L2.My

/-! W17: sorted of a list of data. -/
namespace L2.My
open PySem PySem.Spec PyProof.Rows
section
variable {X : Cx}
theorem each_rel {H : Hp} {pins : List (Addr × Obj)} {σ : St} {s : Shared} (I : Inv X pins σ H s) : ∀ {xs : List V} {ds : List PyData} {us : List Value}, Vals xs us → DpAll X.K H xs ds → PySem.W.EachIs (fun u (b : V × PyData) => RelV b.1 u ∧ ∃ as, Reads s.heap u b.2 as) us (xs.zip ds)
  | [], _, _, r, h => by
    cases h
    cases r
    exact .nil
  | x :: xs, _, _, r, h => by
    cases h with
    | cons hd ht =>
      cases r with
      | cons r1 rt => exact .cons ⟨r1, Dp.reads I _ _ _ hd r1⟩ (each_rel I rt ht)
theorem rel_each : ∀ {bs : List (V × PyData)} {us : List Value}, PySem.W.EachIs (fun u (b : V × PyData) => RelV b.1 u) us bs → Vals (bs.map Prod.fst) us
  | [], _, h => by
    cases h
    exact .nil
  | b :: bs, _, h => by
    cases h with
    | cons h1 ht => exact .cons h1 (rel_each ht)
theorem dp_len {K : PySem.W.Frag} {H : Hp} : ∀ {xs : List V} {ds : List PyData}, DpAll K H xs ds → xs.length = ds.length
  | [], _, h => by cases h; rfl
  | _ :: _, _, h => by
    cases h with
    | cons _ t => exact congrArg (· + 1) (dp_len t)
theorem zip_snd : ∀ {xs : List V} {ds : List PyData}, xs.length = ds.length → (xs.zip ds).map Prod.snd = ds
  | [], [], _ => rfl
  | x :: xs, d :: ds, h => by
    rw [List.zip_cons_cons, List.map_cons, zip_snd (Nat.succ.inj h)]
/-- the values xs, which read as ds, in order -/
def srtD (xs : List V) (ds : List PyData) : List (V × PyData) := (xs.zip ds).mergeSort (PySem.W.dataLe false Prod.snd)
def rSortedD (K : PySem.W.Frag) : List V → Hp → VK → Prop := fun vs H Q => ∃ a xs ds, vs = [.ref a] ∧ SqL K H a xs ∧ DpAll K H xs ds ∧ PySem.W.AllAlike ds ∧ PySem.W.Sortable ds ∧ (∀ d ∈ ds, d.depth ≤ 20) ∧
  ∀ p, H p = none → Q (.ref p) (upd H p (.lst ((srtD xs ds).map Prod.fst)))
theorem cr_sortedD (hu : X.A.units + 64 < cLine) : CallR X (.builtin "sorted") (rSortedD X.K) := by
  intro pins s σ H vs us Q I r h
  obtain ⟨a, xs, ds, rfl, hs, hd, al, so, hde, q⟩ := h
  obtain ⟨its, rv, hl, hz⟩ := I.list hs
  rw [Vals.ref1 r]
  have e := each_rel I rv hd
  have hzs := zip_snd (dp_len hd)
  have hlz : (xs.zip ds).length = xs.length := by rw [List.length_zip, ← dp_len hd, Nat.min_self]
  refine PySem.W.sorted_data (R := fun u (b : V × PyData) => RelV b.1 u) (bs := xs.zip ds) (enc := Prod.snd) hl.isList (e.mono fun _ _ h => h.1) (e.mono fun _ _ h => h.2) (by rw [hzs]; exact al) (by rw [hzs]; exact so) (by rw [hlz]; exact hz) (fun b hb => ?_) fun out ho hout => ?_
  · have : b.2 ∈ ds := by
      rw [← hzs]
      exact List.mem_map.mpr ⟨b, hb, rfl⟩
    have := hde _ this
    omega
  · obtain ⟨ep, he'⟩ := PyProof.Rows.sortedAll_at s.heap its out.toArray
    have hv := rel_each hout
    have hlen : ((srtD xs ds).map Prod.fst).length ≤ sizeLine := by
      rw [List.length_map]
      unfold srtD
      rw [List.length_mergeSort, hlz]
      exact hz
    exact ⟨.ref _, upd H (s.heap.objs.size + 1) (.lst ((srtD xs ds).map Prod.fst)), I.laid (t' := s.toks) (fun _ _ => PyProof.Rows.sortedAll_old) (Nat.le_succ _) ⟨hlen, out, ep, hv, he'⟩, rfl, q _ (I.hok.fresh (Nat.le_succ _))⟩
end
/-- the order of data: a value with what it reads as -/
theorem srtD_perm {xs : List V} {ds : List PyData} : (srtD xs ds).Perm (xs.zip ds) := List.mergeSort_perm _ _
end L2.My

/-! W18: a dict display of one pair, its key a tuple of ints and texts. -/
namespace L2.My
open PySem PySem.Spec PyProof.Rows
section
variable {X : Cx} {k v : Expr} {tk tv : TE} {pos : Pos}
def tDispT (tk tv : TE) : TE := fun σ H Q => ∀ p, H p = none → tk σ (upd H p (.dT [])) fun x H1 => tv σ H1 fun y H2 => H2 p = some (.dT []) ∧ ∃ (b : Addr) (kk : List L2.Key), x = .ref b ∧ H2 b = some (.tup (kk.map kV)) ∧ Q (.ref p) (upd H2 p (.dT [(kk, y)]))
theorem w_dispT {σ : L2.St} {H : Hp} {Q : VK} (q : ∀ p, H p = none → tk σ (upd H p (.dT [])) fun x H1 => tv σ H1 fun y H2 => H2 p = some (.dT []) ∧ ∃ (b : Addr) (kk : List L2.Key), x = .ref b ∧ H2 b = some (.tup (kk.map kV)) ∧ Q (.ref p) (upd H2 p (.dT [(kk, y)]))) : tDispT tk tv σ H Q := q
theorem pe_dispT (hu : X.A.units + 64 < cLine) (hk : PE X k tk) (hv : PE X v tv) : PE X (.Dict [some k] [v] pos) (tDispT tk tv) := by
  refine ⟨fun pins s σ H Q I q => ?_⟩
  have hn := I.hok.fresh (Nat.le_refl s.heap.objs.size)
  have I1 := I.laid (a := s.heap.objs.size) (o := .dT []) (h' := s.heap.push { cls := .type "dict", data := .dict #[] }) (t' := s.toks) (fun _ _ q => Heap.get?_push_of_some _ q) (Nat.le_refl _) (dt_empty s.heap I.big)
  have hl := pairTrees_length [some k] [v] X.env pos rfl rfl
  have hl1 : (pairTrees [some k] [v] X.env pos).length = 1 := hl
  rw [arm_eval_Dict, zip_pairTrees [some k] [v] X.env pos rfl rfl, dictDisplay_pairs _ (by intro e; rw [e] at hl1; cases hl1) (by omega)]
  refine wpAny_bind (wpAny_standAt (wpAny_bind (wpAny_subDictH (knd := tupleKind (mixKind X.prog X.w)) (show X.A.units < cLine by omega) (by omega) ?_)))
  refine pairTrees_cons_walk (thn (hk.run pins _ σ _ _ I1 (q _ hn)) fun u s1 ⟨x, H1, I1, rx, q1⟩ => thn (hv.run pins s1 σ H1 _ I1 q1) fun w2 s2 ⟨y, H2, I2, ry, e, b, kk, ex, eb, q2⟩ => pairTrees_nil_walk ?_)
  subst ex
  cases (show u = Value.ref b from rx)
  obtain ⟨z, hd, xs, rel, dd⟩ := dt_of I2.hok e
  cases rel
  refine ⟨[(kk, b, w2)], ⟨rfl, rfl, key_of I2.hok eb, trivial⟩, dd, fun h' tk' dd' hs => wpAny_pure ?_⟩
  obtain ⟨q', es, ep, hq, h2, h3, h4, _, h5⟩ := dd'
  have hz : [(kk, y)].length ≤ sizeLine := by
    rw [sizeLine_eq]
    exact Nat.le_of_ble_eq_true rfl
  have rel0 : KT H2 [] [] := .nil
  refine ⟨.ref s.heap.objs.size, upd H2 s.heap.objs.size (.dT [(kk, y)]), d_write I2 (by rw [e]; exact True.intro) hs ⟨q', hq⟩ ⟨hz, hd, _, (rel0.put kk eb ry).keeps fun c ys ec => ?_, q', es, ep, hq, h2, h3, h4, h5⟩, rfl, q2⟩
  rw [upd_ne (ne_of ec e (fun z => nomatch z))]
  exact ec
end
end L2.My

/-! W19: steps for dicts with tuple keys; lists sorted by data; few numbers below a bound. -/
namespace L2.My
open PySem PySem.Spec PyProof.Rows
def DninP (x y : V) (H : Hp) (Q : VK) : Prop := ∃ a o, x = .ref a ∧ DGet H a y o ∧ Q (.bl (!o.isSome)) H
theorem w_dnin {ty td : TE} {σ : L2.St} {H : Hp} {Q : VK} (q : ty σ H fun y H1 => td σ H1 fun x H2 => DninP x y H2 Q) : tDNotIn ty td σ H Q := q
theorem k_dninT {a b : Addr} {kvs : List (List L2.Key × V)} {k : List L2.Key} {H : Hp} {Q : VK} (h : H a = some (.dT kvs)) (hb : H b = some (.tup (k.map kV))) (q : Q (.bl (!(valV kvs k).isSome)) H) : DninP (.ref a) (.ref b) H Q := ⟨a, _, rfl, DGet.t h hb, q⟩
def DputP (x y v : V) (H : Hp) (N : Hp → Prop) : Prop := ∃ a H4, x = .ref a ∧ DPut H a y v H4 ∧ N H4
theorem w_dput {td ty tv : TE} {nx bk ct : L2.St → Hp → Prop} {rt : VK} {σ : L2.St} {H : Hp} (q : tv σ H fun v H1 => td σ H1 fun x H2 => ty σ H2 fun y H3 => DputP x y v H3 (nx σ)) : sDPut td ty tv ⟨nx, rt, bk, ct⟩ σ H := q
theorem k_dputT {a b : Addr} {kvs : List (List L2.Key × V)} {k : List L2.Key} {v : V} {H : Hp} {N : Hp → Prop} (h : H a = some (.dT kvs)) (hb : H b = some (.tup (k.map kV))) (hl : kvs.length < sizeLine) (q : N (upd H a (.dT (putK kvs k v)))) : DputP (.ref a) (.ref b) v H N := ⟨a, _, rfl, DPut.t h hb hl, q⟩
/-- all but tracked lists and dicts with tuple keys stays -/
def Kpt (H H' : Hp) : Prop := ∀ b o, (∀ xs, o ≠ .lst xs) → (∀ ks, o ≠ .dT ks) → H b = some o → H' b = some o
theorem Kpt.refl (H : Hp) : Kpt H H := fun _ _ _ _ h => h
theorem Kpt.trans {A B C : Hp} (h : Kpt A B) (k : Kpt B C) : Kpt A C := fun b o n m e => k b o n m (h b o n m e)
theorem Kpt.same {A B : Hp} (h : Same A B) : Kpt A B := fun b o _ _ e => h b o e
theorem Kpt.kps {A B : Hp} (h : Kps A B) : Kpt A B := fun b o n _ e => h b o n e
theorem Kpt.tup {A B : Hp} (h : Kpt A B) {a : Addr} {xs : List V} (e : A a = some (.tup xs)) : B a = some (.tup xs) := h _ _ (by intro xs z; cases z) (by intro xs z; cases z) e
theorem Kpt.updL {A : Hp} {p : Addr} {xs : List V} {o : HO} (h : A p = some (.lst xs)) : Kpt A (upd A p o) := fun b o' n _ e => by rw [upd_ne (fun z => by rw [z, h] at e; cases e; exact n _ rfl)]; exact e
theorem Kpt.updD {A : Hp} {p : Addr} {ks : List (List L2.Key × V)} {o : HO} (h : A p = some (.dT ks)) : Kpt A (upd A p o) := fun b o' _ m e => by rw [upd_ne (fun z => by rw [z, h] at e; cases e; exact m _ rfl)]; exact e
/-- unlike numbers below a bound are few -/
theorem nodup_lt : ∀ (n : Nat) (l : List Nat), l.Nodup → (∀ x ∈ l, x < n) → l.length ≤ n
  | 0, l, _, h => by
    cases l with
    | nil => exact Nat.le_refl _
    | cons x l => exact absurd (h x (by simp)) (by omega)
  | n + 1, l, d, h => by
    by_cases m : n ∈ l
    · have := nodup_lt n (l.erase n) (d.erase _) fun x hx => by
        have h1 := (d.mem_erase_iff).mp hx
        have := h x h1.2
        have h2 := h1.1
        omega
      rw [List.length_erase_of_mem m] at this
      omega
    · have := nodup_lt n l d fun x hx => by
        have h1 := h x hx
        have : x ≠ n := fun z => m (z ▸ hx)
        omega
      omega
/-- a row of unlike things that a number below a bound tells apart is short -/
theorem nodup_few {α : Type} {l : List α} {n : Nat} (f : α → Nat) (d : l.Nodup) (h : ∀ x ∈ l, f x < n) (inj : ∀ x ∈ l, ∀ y ∈ l, f x = f y → x = y) : l.length ≤ n := by
  have := nodup_lt n (l.map f) ?_ ?_
  · rwa [List.length_map] at this
  · exact (List.pairwise_map).mpr (d.imp_of_mem fun hx hy n z => n (inj _ hx _ hy z))
  · intro x hx
    obtain ⟨y, hy, rfl⟩ := List.mem_map.mp hx
    exact h y hy
end L2.My

/-! W20: t.index(x) of a tuple of ints. -/
namespace L2.My
open PySem PySem.Spec PyProof.Rows
theorem flat_intsW (ys : List Int) : (ys.map V.int).all flatV = true := by
  rw [List.all_map]
  exact List.all_eq_true.mpr fun _ _ => rfl
section
variable {X : Cx}
def rTupIx (K : PySem.W.Frag) : V → List V → Hp → VK → Prop := fun x xs H Q => ∃ (p : Addr) (ys : List Int) (z : Int) (j : Nat), x = .ref p ∧ xs = [.int z] ∧ SqT K H p (ys.map V.int) ∧ ys[j]? = some z ∧ (∀ m, m < j → ys[m]? ≠ some z) ∧ Q (.int (j : Nat)) H
theorem mt_tupIx : MtR X "tuple.index" (rTupIx X.K) := by
  intro pins s σ H x xs v us Q I rx rs h
  obtain ⟨p, ys, z, j, rfl, rfl, hq, hy, hno, q⟩ := h
  cases rx
  obtain ⟨u, rfl, t, rfl⟩ := vals1 rs
  obtain ⟨its, r, pl, hz⟩ := I.tuple hq
  obtain ⟨⟨cls, dd, dt, sl⟩, ho, hc, n, hd⟩ := pl
  simp only at hc hd
  subst hc
  subst hd
  have hl : its.toArray.size = ys.length := by rw [List.size_toArray, ← r.length, List.length_map]
  have hj : j < its.toArray.size := by rw [hl]; exact (List.getElem?_eq_some_iff.mp hy).1
  have at' : ∀ (m : Nat) (hm : m < its.toArray.size), ∃ y t', ys[m]? = some y ∧ its.toArray[m] = Value.int y t' := fun m hm => by
    have hm' : m < ys.length := by rw [← hl]; exact hm
    obtain ⟨w, hw, t', hw'⟩ := r.get (i := m) (x := .int ys[m]) (by simp [hm'])
    refine ⟨ys[m], t', List.getElem?_eq_getElem hm', ?_⟩
    have e := (List.getElem?_eq_some_iff.mp hw).2
    rw [← hw', ← e]
    simp
  refine call_meets PySem.F.slot_tuple_index ⟨_, ho, rfl⟩ PySem.F.entry_tuple_index (PySem.F.args_tuple_index_2 _ _) (TI.tuple_indexAt p its.toArray n dd sl (.int z t) (eqU (.int z)) j hj ?_ ?_)
    ⟨ho, fun w hw => mem_eqAt (x := .int z) ⟨t, rfl⟩ rfl r (flat_intsW ys) w (by simpa using hw), ⟨.int (j : Nat), H, I.tok _, ⟨_, rfl⟩, q⟩⟩
  · obtain ⟨y, t', h1, h2⟩ := at' j hj
    rw [hy] at h1
    cases h1
    rw [h2]
    show (z == z) = true
    exact beq_self_eq_true z
  · intro m hm hmj
    obtain ⟨y, t', h1, h2⟩ := at' m hm
    rw [h2]
    show (y == z) = false
    exact beq_eq_false_iff_ne.mpr fun e => hno m hmj (e ▸ h1)
end
end L2.My

/-! W21: the tiles about a corner close, and lie between sides one behind the other (the window's numbers, linear). -/
namespace L2.My
/-- the direction d among the eight, in the window's numbers -/
def gX (U V X : Int) (d : Nat) : Int := match d with
  | 0 => X + 2 * U | 1 => X - V | 2 => X | 3 => X + V | 4 => X - 2 * U | 5 => X + V | 6 => X | _ => X - V
def gY (U V Y : Int) (d : Nat) : Int := match d with
  | 0 => Y | 1 => Y + V | 2 => Y - 2 * U | 3 => Y + V | 4 => Y | 5 => Y - V | 6 => Y + 2 * U | _ => Y - V
/-- the corner, the next ones, and the one that comes by both -/
def clo1 (X Y U V : Int) (d e : Nat) : Prop := WinL X Y U V → WinL (gX U V X d) (gY U V Y d) U V → WinL (gX U V X e) (gY U V Y e) U V → WinL (gX U V (gX U V X d) e) (gY U V (gY U V Y d) e) U V
theorem clo_one {X Y U V : Int} (u : 0 < U) (lo : 7 * U < 5 * V) (hi : 2 * V ≤ 3 * U) : ∀ d, d < 8 → clo1 X Y U V d ((d + 1) % 8) := by
  intro d hd h0 h1 h2
  have cs : d = 0 ∨ d = 1 ∨ d = 2 ∨ d = 3 ∨ d = 4 ∨ d = 5 ∨ d = 6 ∨ d = 7 := by omega
  rcases cs with rfl | rfl | rfl | rfl | rfl | rfl | rfl | rfl
  all_goals
    obtain ⟨a1, a2, a3, a4, a5, a6, a7, a8⟩ := h0
    obtain ⟨b1, b2, b3, b4, b5, b6, b7, b8⟩ := h1
    obtain ⟨c1, c2, c3, c4, c5, c6, c7, c8⟩ := h2
    simp only [gX, gY, Nat.reduceAdd, Nat.reduceMod] at *
    constructor <;> omega
/-- not on the rim -/
structure Off (X Y U V : Int) : Prop where
  x1 : X ≠ U + V
  x2 : X ≠ -(U + V)
  y1 : Y ≠ U + V
  y2 : Y ≠ -(U + V)
  s1 : X + Y ≠ 2 * U + V
  s2 : X + Y ≠ -(2 * U + V)
  d1 : X - Y ≠ 2 * U + V
  d2 : X - Y ≠ -(2 * U + V)
theorem out_off {X Y U V : Int} (n : ¬ WinL X Y U V) (f : Off X Y U V) : U + V < X ∨ X < -(U + V) ∨ U + V < Y ∨ Y < -(U + V) ∨ 2 * U + V < X + Y ∨ X + Y < -(2 * U + V) ∨ 2 * U + V < X - Y ∨ X - Y < -(2 * U + V) := by
  obtain ⟨f1, f2, f3, f4, f5, f6, f7, f8⟩ := f
  have := WinL.out n
  omega
theorem clo_two {X Y U V : Int} (u : 0 < U) (lo : 7 * U < 5 * V) (hi : 2 * V ≤ 3 * U) : ∀ d, d < 8 → ¬ WinL (gX U V X ((d + 1) % 8)) (gY U V Y ((d + 1) % 8)) U V → Off (gX U V X ((d + 1) % 8)) (gY U V Y ((d + 1) % 8)) U V → clo1 X Y U V d ((d + 2) % 8) := by
  intro d hd n f h0 h1 h2
  have v : 0 < V := by omega
  have o := out_off n f
  clear n f
  have cs : d = 0 ∨ d = 1 ∨ d = 2 ∨ d = 3 ∨ d = 4 ∨ d = 5 ∨ d = 6 ∨ d = 7 := by omega
  rcases cs with rfl | rfl | rfl | rfl | rfl | rfl | rfl | rfl
  all_goals
    obtain ⟨a1, a2, a3, a4, a5, a6, a7, a8⟩ := h0
    obtain ⟨b1, b2, b3, b4, b5, b6, b7, b8⟩ := h1
    obtain ⟨c1, c2, c3, c4, c5, c6, c7, c8⟩ := h2
    simp only [gX, gY, Nat.reduceAdd, Nat.reduceMod] at *
    constructor <;> omega
theorem clo_three {X Y U V : Int} (u : 0 < U) (lo : 7 * U < 5 * V) (hi : 2 * V ≤ 3 * U) : ∀ d, d < 8 → ¬ WinL (gX U V X ((d + 1) % 8)) (gY U V Y ((d + 1) % 8)) U V → ¬ WinL (gX U V X ((d + 2) % 8)) (gY U V Y ((d + 2) % 8)) U V → Off (gX U V X ((d + 1) % 8)) (gY U V Y ((d + 1) % 8)) U V → Off (gX U V X ((d + 2) % 8)) (gY U V Y ((d + 2) % 8)) U V → clo1 X Y U V d ((d + 3) % 8) := by
  intro d hd n m f f2 h0 h1 h2
  have v : 0 < V := by omega
  have o := out_off n f
  have o2 := out_off m f2
  clear n m f f2
  have cs : d = 0 ∨ d = 1 ∨ d = 2 ∨ d = 3 ∨ d = 4 ∨ d = 5 ∨ d = 6 ∨ d = 7 := by omega
  rcases cs with rfl | rfl | rfl | rfl | rfl | rfl | rfl | rfl
  all_goals
    obtain ⟨a1, a2, a3, a4, a5, a6, a7, a8⟩ := h0
    obtain ⟨b1, b2, b3, b4, b5, b6, b7, b8⟩ := h1
    obtain ⟨c1, c2, c3, c4, c5, c6, c7, c8⟩ := h2
    simp only [gX, gY, Nat.reduceAdd, Nat.reduceMod] at *
    constructor <;> omega
/-- a tile of the floor: no side lies within it -/
def in4 (X Y U V : Int) (d e : Nat) : Prop := WinL X Y U V ∧ WinL (gX U V X d) (gY U V Y d) U V ∧ WinL (gX U V X e) (gY U V Y e) U V ∧ WinL (gX U V (gX U V X d) e) (gY U V (gY U V Y d) e) U V
theorem non_two {X Y U V : Int} (u : 0 < U) (lo : 7 * U < 5 * V) (hi : 2 * V ≤ 3 * U) : ∀ d, d < 8 → in4 X Y U V d ((d + 2) % 8) → ¬ WinL (gX U V X ((d + 1) % 8)) (gY U V Y ((d + 1) % 8)) U V := by
  intro d hd ⟨h0, h1, h2, h3⟩ n
  have v : 0 < V := by omega
  have cs : d = 0 ∨ d = 1 ∨ d = 2 ∨ d = 3 ∨ d = 4 ∨ d = 5 ∨ d = 6 ∨ d = 7 := by omega
  rcases cs with rfl | rfl | rfl | rfl | rfl | rfl | rfl | rfl
  all_goals
    obtain ⟨a1, a2, a3, a4, a5, a6, a7, a8⟩ := h0
    obtain ⟨b1, b2, b3, b4, b5, b6, b7, b8⟩ := h1
    obtain ⟨c1, c2, c3, c4, c5, c6, c7, c8⟩ := h2
    obtain ⟨e1, e2, e3, e4, e5, e6, e7, e8⟩ := h3
    obtain ⟨f1, f2, f3, f4, f5, f6, f7, f8⟩ := n
    simp only [gX, gY, Nat.reduceAdd, Nat.reduceMod] at *
    omega
theorem non_three {X Y U V : Int} (u : 0 < U) (lo : 7 * U < 5 * V) (hi : 2 * V ≤ 3 * U) : ∀ d, d < 8 → in4 X Y U V d ((d + 3) % 8) → ¬ WinL (gX U V X ((d + 1) % 8)) (gY U V Y ((d + 1) % 8)) U V ∧ ¬ WinL (gX U V X ((d + 2) % 8)) (gY U V Y ((d + 2) % 8)) U V := by
  intro d hd ⟨h0, h1, h2, h3⟩
  have v : 0 < V := by omega
  have cs : d = 0 ∨ d = 1 ∨ d = 2 ∨ d = 3 ∨ d = 4 ∨ d = 5 ∨ d = 6 ∨ d = 7 := by omega
  rcases cs with rfl | rfl | rfl | rfl | rfl | rfl | rfl | rfl
  all_goals
    obtain ⟨a1, a2, a3, a4, a5, a6, a7, a8⟩ := h0
    obtain ⟨b1, b2, b3, b4, b5, b6, b7, b8⟩ := h1
    obtain ⟨c1, c2, c3, c4, c5, c6, c7, c8⟩ := h2
    obtain ⟨e1, e2, e3, e4, e5, e6, e7, e8⟩ := h3
    constructor
    all_goals
      intro n
      obtain ⟨f1, f2, f3, f4, f5, f6, f7, f8⟩ := n
      simp only [gX, gY, Nat.reduceAdd, Nat.reduceMod] at *
      omega
end L2.My

/-! W22: a comprehension over a zip of two lists. -/
namespace L2.My
open PySem PySem.Spec PyProof.Rows
section
variable {K : PySem.W.Frag} {σ : L2.St} {H : Hp} {Q : VK} {a b : Addr} {xs ys : List V} {te : TE} {ws : List Nat} {g : TG} {tt : TT}
theorem k_lcZL (Pv : Nat → Addr → Hp → Prop) (ha : H a = some (.lst xs)) (hb : H b = some (.lst ys)) (e : xs.length = ys.length) (h0 : ∀ D, H D = none → Pv 0 D (upd H D (.lst []))) (hl : ∀ i D H', Pv i D H' → H' a = some (.lst xs) ∧ H' b = some (.lst ys))
    (hs : ∀ i x y D H T H', xs[i]? = some x → ys[i]? = some y → Pv i D H → H T = none → Same H H' → H' T = some (.tup [x, y]) → g (.ref T) (wipe σ ws) H' fun σ2 H2 => wipe σ2 ws = wipe σ ws ∧ tt σ2 H2 fun b H3 =>
      if b = true then te σ2 H3 fun z H4 => ∃ acc, H4 D = some (.lst acc) ∧ acc.length < sizeLine ∧ Pv (i + 1) D (upd H4 D (.lst (acc ++ [z]))) else Pv (i + 1) D H3) (hd : ∀ D H, Pv xs.length D H → Q (.ref D) H) : CompZT K g tt te ws σ [.ref a, .ref b] H Q := by
  refine ⟨a, b, xs, ys, rfl, .inl ⟨SqL.of ha, SqL.of hb, fun D hD => ⟨fun i m H => Pv i D H ∧ m + i = xs.length, ⟨xs.length, h0 D hD, rfl⟩, fun i m H ⟨q, em⟩ => ?_⟩⟩⟩
  obtain ⟨l1, l2⟩ := hl i D H q
  rcases Nat.lt_or_ge i xs.length with h | h
  · right
    have ex : xs[i]? = some xs[i] := List.getElem?_eq_getElem h
    have ey : ys[i]? = some (ys[i]'(by omega)) := List.getElem?_eq_getElem (by omega)
    refine ⟨⟨xs, ys, _, _, SqL.of l1, SqL.of l2, ex, ey⟩, Pv (i + 1) D, fun H' q' => ⟨m - 1, by omega, q', by omega⟩, ?_⟩
    rintro x H' ⟨T, x', y', rfl, hT, rfl, h1, h2⟩
    exact hs i x' y' D H T _ (h1 xs (SqL.of l1)) (h2 ys (SqL.of l2)) q hT (Same.new hT) upd_same
  · left
    obtain rfl : i = xs.length := by omega
    exact ⟨⟨xs, ys, SqL.of l1, SqL.of l2, .inl (Nat.le_refl _)⟩, hd D H q⟩
end
end L2.My

/-! W23: != of two lists, or two tuples, with the same things in them. -/
namespace L2.My
open PySem PySem.Spec PyProof.Rows
theorem eqV_refl {v : V} (h : flatV v = true) : eqV v v = true := by
  cases v with
  | non => rfl
  | bl b => cases b <;> rfl
  | int i => exact beq_self_eq_true i
  | str z => exact beq_self_eq_true z
  | _ => cases h
section
variable {X : Cx}
theorem same_items {A : Around} {s : Shared} {xs : List V} {us ws : List Value} (r : Vals xs us) (r2 : Vals xs ws) (hx : ∀ v ∈ xs, flatV v = true ∨ ∃ p, v = .ref p) (j : Nat) (h1 : j < us.toArray.size) (h2 : j < ws.toArray.size) : SeqAt.EqAt A s us.toArray[j] ws.toArray[j] true := by
  have l1 : j < us.length := by simpa using h1
  have hj : j < xs.length := by rw [r.length]; exact l1
  obtain ⟨u, hu, ru⟩ := r.get (i := j) (List.getElem?_eq_getElem hj)
  obtain ⟨w, hw, rw'⟩ := r2.get (i := j) (List.getElem?_eq_getElem hj)
  have e1 : us.toArray[j] = u := by simpa using (List.getElem?_eq_some_iff.mp hu).2
  have e2 : ws.toArray[j] = w := by simpa using (List.getElem?_eq_some_iff.mp hw).2
  rw [e1, e2]
  rcases hx _ (List.getElem_mem hj) with f | ⟨p, e⟩
  · have := eqAt_V (A := A) (s := s) ru rw' f f
    rwa [eqV_refl f] at this
  · rw [e] at ru rw'
    cases ru
    cases rw'
    exact SeqAt.EqAt.same _
/-- two lists, or two tuples, of the same things -/
def rNeSame (K : PySem.W.Frag) : R2 := fun x y H Q => ∃ a b xs, x = .ref a ∧ y = .ref b ∧ (SqL K H a xs ∧ SqL K H b xs ∨ SqT K H a xs ∧ SqT K H b xs) ∧ (∀ v ∈ xs, flatV v = true ∨ ∃ p, v = .ref p) ∧ Q (.bl false) H
theorem op_neSame (hu : X.A.units + 64 < cLine) : OpR X (compareOp .NotEq) (rNeSame X.K) := by
  intro pins s σ H x y v u Q I rx ry h
  obtain ⟨a, b, xs, rfl, rfl, hab, hx, q⟩ := h
  cases rx
  cases ry
  rcases hab with ⟨ha, hb⟩ | ⟨ha, hb⟩
  · obtain ⟨its, r, pl, hz⟩ := I.list ha
    obtain ⟨its2, r2, pl2, hz2⟩ := I.list hb
    have l1 := r.length
    have l2 := r2.length
    have hsz : its.toArray.size = its2.toArray.size := by rw [List.size_toArray, List.size_toArray]; omega
    refine SeqAt.RcNeAt.lists (e := fun _ => true) pl.isList pl2.isList hsz (by omega) (fun j h1 h2 => same_items r r2 hx j h1 h2) _ _ _ _ ⟨.bl _, H, I, rfl, ?_⟩
    rw [show (!(List.range its.toArray.size).all fun _ => true) = false by simp]
    exact q
  · obtain ⟨its, r, pl, hz⟩ := I.tuple ha
    obtain ⟨its2, r2, pl2, hz2⟩ := I.tuple hb
    have l1 := r.length
    have l2 := r2.length
    have hsz : its.toArray.size = its2.toArray.size := by rw [List.size_toArray, List.size_toArray]; omega
    refine SeqAt.RcNeAt.tuples (e := fun _ => true) pl pl2 (by omega) (fun j h1 h2 => same_items r r2 hx j h1 h2) _ _ _ _ ⟨.bl _, H, I, rfl, ?_⟩
    rw [hsz]
    simp only [beq_self_eq_true, Bool.and_true]
    rw [show (!(List.range (min its2.toArray.size its2.toArray.size)).all fun _ => true) = false by simp]
    exact q
end
theorem w_repL {H : Hp} {Q : VK} {l : Addr} {k : Int} {xs : List V} (h : H l = some (.lst xs)) (k0 : 0 ≤ k) (k9 : k ≤ 1000) (hl : xs.length * k.toNat ≤ 1000) (q : ∀ p H2, H p = none → Same H H2 → H2 p = some (.lst (List.replicate k.toNat xs).flatten) → Q (.ref p) H2) : rRep (.ref l) (.int k) H Q :=
  ⟨l, k, xs, rfl, rfl, h, by omega, by omega, Nat.le_trans hl (by decide), fun p hp => q p _ hp (Same.new hp) upd_same⟩
end L2.My

/-! W24: tuples whose object is told (no dict of its own): t.index(x); steps over what reads as a tuple. -/
namespace L2.My
open PySem PySem.Spec PyProof.Rows
/-- a tuple without a dict of its own -/
def FzT (H : Hp) (a : Addr) (xs : List V) : Prop := ∃ ob : Obj, ob.dict = none ∧ H a = some (.frz ob (.tup xs))
theorem FzT.same {H H' : Hp} {a : Addr} {xs : List V} (h : FzT H a xs) (s : Same H H') : FzT H' a xs := by
  obtain ⟨ob, d, e⟩ := h
  exact ⟨ob, d, s _ _ e⟩
theorem FzT.kpt {H H' : Hp} {a : Addr} {xs : List V} (h : FzT H a xs) (s : Kpt H H') : FzT H' a xs := by
  obtain ⟨ob, d, e⟩ := h
  exact ⟨ob, d, s _ _ (by intro xs z; cases z) (by intro xs z; cases z) e⟩
theorem FzT.sq {K : PySem.W.Frag} {H : Hp} {a : Addr} {xs : List V} (h : FzT H a xs) : SqT K H a xs := by
  obtain ⟨ob, d, e⟩ := h
  exact .inl (.inr ⟨ob, e⟩)
section
variable {X : Cx}
def rTupOfF (K : PySem.W.Frag) : List V → Hp → VK → Prop := fun vs H Q => ∃ p ys, vs = [.ref p] ∧ SqL K H p ys ∧ ∀ l H', H l = none → Same H H' → FzT H' l ys → Q (.ref l) H'
theorem cn_tupleF : CallR X (.type "tuple") (rTupOfF X.K) := by
  intro pins s σ H xs us Q I r h
  obtain ⟨p, ys, rfl, hq, q⟩ := h
  obtain ⟨u, rfl, rx⟩ := vals1 r
  cases rx
  obtain ⟨its, r', pl, hz⟩ := I.list hq
  have hlen := r'.length
  refine call_tuple_list pl.isList (fun h' kp => ?_) (by simp only [List.size_toArray] <;> omega)
  have I1 : Inv X pins σ H { s with heap := h' } := I.kept (t' := s.toks) kp
  have I2 : Inv X pins σ (upd H h'.objs.size (.frz { cls := .type "tuple", data := .seq its.toArray } (.tup ys))) { s with heap := h'.push { cls := .type "tuple", data := .seq its.toArray } } :=
    I1.laid (t' := s.toks) (fun b o e => Heap.get?_push_of_some _ e) (Nat.le_refl _) ⟨Heap.get?_push_size _ rfl, hz, its, r', IsTup.new _ _⟩
  have hn := I1.hok.fresh (Nat.le_refl _)
  exact ⟨.ref h'.objs.size, _, I2, rfl, q _ _ hn (Same.new hn) ⟨_, rfl, upd_same⟩⟩
variable {o e : Expr} {es : List Expr} {to : TE} {t : TA} {name : Str} {apos cpos : Pos} {id : String} {r : V → List V → Hp → VK → Prop}
def TMp (x : V) (H : Hp) (N : Prop) : Prop := ∃ a xs, x = .ref a ∧ FzT H a xs ∧ N
def tTM (r : V → List V → Hp → VK → Prop) (to : TE) (t : TA) : TE := fun σ H Q => to σ H fun x H1 => TMp x H1 (t σ H1 fun xs H2 => r x xs H2 Q)
theorem w_tm {σ : L2.St} {H : Hp} {Q : VK} (q : to σ H fun x H1 => TMp x H1 (t σ H1 fun xs H2 => r x xs H2 Q)) : tTM r to t σ H Q := q
theorem k_tm {a : Addr} {xs : List V} {H : Hp} {N : Prop} (h : FzT H a xs) (q : N) : TMp (.ref a) H N := ⟨a, xs, rfl, h, q⟩
theorem pe_tm (pa : PlainAttrs "tuple") (slot : Slot "tuple" name id) (hty : typeOf (.builtin id) = pure (.type "method_descriptor")) (hm : MtR X id r) (ho : PE X o to) (ha : PA X (e :: es) t)
    (hbase : attributeBase o name X.env (eval o X.env) = eval o X.env := by rfl)
    (hfew : ((backTo cpos (starEach (e :: es) X.env)).all (fun x => !x.1) && (backToKw cpos (keywordEach [] X.env)).all (fun x => x.1.isSome)
      && decide ((e :: es).length + ([] : List Keyword).length + (if ([] : List Keyword).isEmpty then 0 else 1) < 30)) = true := by rfl)
    (hline : (apos.endLine == cpos.line) = true := by rfl) (hs : starEach (e :: es) X.env = (false, eval e X.env) :: starEach es X.env := by rfl) (hplain : (backTo cpos (starEach es X.env)).any (·.1) = false := by rfl) :
    PE X (.Call (.Attribute o name apos) (e :: es) [] cpos) (tTM r to t) := by
  refine ⟨fun pins s σ H Q I h => ?_⟩
  refine wpAny_Call_method_late hbase hfew hline rfl (thn (ho.run pins s σ H _ I h) fun v s1 ⟨x, H1, I1, r1, q0⟩ => ?_)
  obtain ⟨a, xs, ex, ⟨ob, hd, hf⟩, q1⟩ := q0
  subst ex
  cases (show v = Value.ref a from r1)
  obtain ⟨hg, hz, its, rv, ⟨o', ho', hc', _⟩⟩ := I1.hok a _ hf
  have h1 : s1.TypeIs (.ref a) "tuple" := ⟨o', ho', hc'⟩
  have h2 : ∀ b, Value.ref a = .ref b → ∃ ob, s1.heap.get? b = some ob ∧ ob.dict = none := fun b eb => by
    cases eb
    exact ⟨ob, hg, hd⟩
  refine ⟨"tuple", id, pa, slot, hty, h1, h2, ?_⟩
  have hA := ha.run cpos pins s1 σ H1 _ I1 q1
  rw [hs] at hA ⊢
  refine Calls.callWith_builtin (by show (false || (backTo cpos (starEach es X.env)).any (·.1)) = false; rw [hplain] <;> rfl) (Calls.evalArgs_plain ?_)
  exact thn hA fun us s2 ⟨vs, H2, I2, r2, q2⟩ => hm pins s2 σ H2 (.ref a) vs (.ref a) us Q I2 rfl r2 q2
end
/-! steps over SqT -/
section
variable {K : PySem.W.Frag} {σ : L2.St} {H : Hp} {Q : VK} {a b : Addr} {xs ys : List V} {te : TE} {ws : List Nat} {g : TG} {tt : TT} {tb : TS}
theorem w_ixS {i : Int} {v : V} (h : SqT K H a xs) (e : atI xs i = some v) (q : Q v H) : rIx K (.ref a) (.int i) H Q := .inr (.inl ⟨a, xs, i, v, rfl, rfl, h, e, q⟩)
theorem k_forS {nx bk ct : L2.St → Hp → Prop} {rt : VK} (Pv : Nat → L2.St → Hp → Prop) (h : SqT K H a xs) (h0 : Pv 0 σ H) (hl : ∀ i σ H, Pv i σ H → SqT K H a xs)
    (hs : ∀ i x σ H, xs[i]? = some x → Pv i σ H → g x σ H fun σ2 H2 => tb ⟨Pv (i + 1), rt, nx, Pv (i + 1)⟩ σ2 H2) (hd : ∀ σ H, Pv xs.length σ H → nx σ H) : ForT K g tb ⟨nx, rt, bk, ct⟩ σ (.ref a) H :=
  ⟨a, rfl, ⟨_, h⟩, for_tup (xs := xs) Pv h0 (fun i σ H _ q => hl i σ H q) hs hd⟩
/-- a slice that is not the whole -/
theorem k_slTS {lo hi : Option Int} (h : SqT K H a xs) (n : ¬ (HT.sIx xs.length 0 lo = 0 ∧ HT.sIx xs.length xs.length hi = xs.length)) (q : ∀ p H2, H p = none → Same H H2 → H2 p = some (.tup (cutV xs lo hi)) → Q (.ref p) H2) : SlP (rSlA K) (.ref a) lo hi H Q :=
  ⟨a, xs, rfl, h, fun z => absurd z n, fun _ p hp => q p _ hp (Same.new hp) upd_same⟩
theorem k_lcZS (Pv : Nat → Addr → Hp → Prop) (ha : SqT K H a xs) (hb : SqT K H b ys) (e : xs.length = ys.length) (h0 : ∀ D, H D = none → Pv 0 D (upd H D (.lst []))) (hl : ∀ i D H', Pv i D H' → SqT K H' a xs ∧ SqT K H' b ys)
    (hs : ∀ i x y D H T H', xs[i]? = some x → ys[i]? = some y → Pv i D H → H T = none → Same H H' → H' T = some (.tup [x, y]) → g (.ref T) (wipe σ ws) H' fun σ2 H2 => wipe σ2 ws = wipe σ ws ∧ tt σ2 H2 fun b H3 =>
      if b = true then te σ2 H3 fun z H4 => ∃ acc, H4 D = some (.lst acc) ∧ acc.length < sizeLine ∧ Pv (i + 1) D (upd H4 D (.lst (acc ++ [z]))) else Pv (i + 1) D H3) (hd : ∀ D H, Pv xs.length D H → Q (.ref D) H) : CompZT K g tt te ws σ [.ref a, .ref b] H Q := by
  refine ⟨a, b, xs, ys, rfl, .inr ⟨ha, hb, fun D hD => ⟨fun i m H => Pv i D H ∧ m + i = xs.length, ⟨xs.length, h0 D hD, rfl⟩, fun i m H ⟨q, em⟩ => ?_⟩⟩⟩
  obtain ⟨l1, l2⟩ := hl i D H q
  rcases Nat.lt_or_ge i xs.length with h | h
  · right
    have ex : xs[i]? = some xs[i] := List.getElem?_eq_getElem h
    have ey : ys[i]? = some (ys[i]'(by omega)) := List.getElem?_eq_getElem (by omega)
    refine ⟨⟨xs, ys, _, _, l1, l2, ex, ey⟩, Pv (i + 1) D, fun H' q' => ⟨m - 1, by omega, q', by omega⟩, ?_⟩
    rintro x H' ⟨T, x', y', rfl, hT, rfl, h1, h2⟩
    exact hs i x' y' D H T _ (h1 xs l1) (h2 ys l2) q hT (Same.new hT) upd_same
  · left
    obtain rfl : i = xs.length := by omega
    exact ⟨⟨xs, ys, l1, l2, .inl (Nat.le_refl _)⟩, hd D H q⟩
end
end L2.My

local macro_rules | `(tactic| walk_at "side") => `(tactic| first | (exact Or.inl ⟨by omega, by omega⟩) | (exact Or.inr (Or.inl ⟨by omega, by omega⟩)) | (exact ⟨by decide, by decide⟩) | (show (0 : Int) < _; omega) | assumption | (exact ⟨by decide, by decide, by decide⟩))
local macro_rules | `(tactic| walk_at "st") => `(tactic| first | with_reducible exact L2.My.set0 | with_reducible exact L2.My.set1 | with_reducible exact L2.My.set2 | with_reducible exact L2.My.set3 | with_reducible exact L2.My.set4 | with_reducible exact L2.My.set5 | with_reducible exact L2.My.set6 | with_reducible exact L2.My.set7 | with_reducible exact L2.My.set8 | with_reducible exact L2.My.set9 | with_reducible exact L2.My.set10 | with_reducible exact L2.My.set11 | with_reducible exact L2.My.set12 | with_reducible exact L2.My.set13 | with_reducible exact L2.My.set14 | with_reducible exact L2.My.set15 | with_reducible exact L2.My.set16 | with_reducible exact L2.My.set17 | with_reducible exact L2.My.set18 | with_reducible exact L2.My.set19 | with_reducible exact L2.My.set20 | with_reducible exact L2.My.set21 | with_reducible exact L2.My.set22 | with_reducible exact L2.My.set23 | exact L2.My.set0 | exact L2.My.set1 | exact L2.My.set2 | exact L2.My.set3 | exact L2.My.set4 | exact L2.My.set5 | exact L2.My.set6 | exact L2.My.set7 | exact L2.My.set8 | exact L2.My.set9 | exact L2.My.set10 | exact L2.My.set11 | exact L2.My.set12 | exact L2.My.set13 | exact L2.My.set14 | exact L2.My.set15 | exact L2.My.set16 | exact L2.My.set17 | exact L2.My.set18 | exact L2.My.set19 | exact L2.My.set20 | exact L2.My.set21 | exact L2.My.set22 | exact L2.My.set23)
local macro_rules | `(tactic| walk_at "s") => `(tactic| first
  | with_reducible refine L2.My.w_seq ?_ | with_reducible refine L2.My.w_asg ?_ | with_reducible refine L2.My.w_op ?_ | with_reducible refine L2.My.w_ret ?_ | with_reducible refine L2.My.w_if ?_
  | ((with_reducible refine' L2.My.w_var ?hv ?_); (case hv => exact rfl)) | with_reducible refine L2.My.w_c ?_ | with_reducible refine L2.My.w_I0 ?_ | with_reducible refine L2.My.w_U ?_
  | ((with_reducible refine' L2.My.w_name ?hs ?_); (case hs => walk_at "st")) | with_reducible refine L2.My.w_next ?_ | with_reducible refine L2.My.w_drop ?_
  | with_reducible refine L2.My.w_test ?_ | with_reducible refine L2.My.w_B ?_ | with_reducible refine L2.My.w_bl ?_ | with_reducible refine L2.My.w_blV ?_ | with_reducible refine L2.My.w_and ?_ | with_reducible refine L2.My.w_or ?_ | with_reducible refine L2.My.w_not ?_
  | with_reducible refine L2.My.w_andV ?_ | with_reducible refine L2.My.w_orV ?_ | with_reducible refine L2.My.w_notV ?_ | with_reducible refine L2.My.w_un ?_
  | ((with_reducible refine' L2.My.w_T ?hc ?_); (case hc => exact rfl)) | ((with_reducible refine' L2.My.w_F ?hc ?_); (case hc => exact rfl))
  | with_reducible refine L2.My.w_cons ?_ | with_reducible refine L2.My.w_nil ?_ | with_reducible refine L2.My.w_call ?_ | with_reducible refine L2.My.w_cb ?_
  | with_reducible refine L2.My.w_tup ?_ | with_reducible refine L2.My.w_lst ?_ | with_reducible refine L2.My.w_fldE ?_ | with_reducible refine L2.My.w_mkO ?_ | with_reducible refine L2.My.w_int ?_ | with_reducible refine L2.My.w_intB ?_ | with_reducible refine L2.My.w_abs ?_ | with_reducible refine L2.My.w_yes ?_ | with_reducible refine L2.My.w_Tself ?_ | with_reducible refine L2.My.w_Fself ?_ | with_reducible refine L2.My.w_sl ?_ | with_reducible refine L2.My.w_dnew ?_ | with_reducible refine L2.My.w_isB ?_ | with_reducible refine L2.My.w_gsub ?_ | with_reducible refine L2.My.w_poN ?_ | with_reducible refine L2.My.w_poS ?_ | with_reducible refine L2.My.w_exI ?_
  | ((with_reducible refine' L2.My.w_I ?hc ?_); (case hc => walk_at "side"))
  | ((with_reducible refine' L2.My.w_ixL ?hh ?he ?_); (case hh => assumption); (case he => exact rfl)) | ((with_reducible refine' L2.My.w_ixT ?hh ?he ?_); (case hh => assumption); (case he => exact rfl))
  | with_reducible refine L2.My.w_xf ?_ | with_reducible refine L2.My.w_stoE ?_ | with_reducible refine L2.My.w_mkC ?_ | with_reducible refine L2.My.w_meth ?_
  | with_reducible refine L2.My.w_forT ?_ | with_reducible refine L2.My.w_forL ?_ | with_reducible refine L2.My.w_forR ?_ | with_reducible refine L2.My.w_forR2 ?_ | with_reducible refine L2.My.w_forZ ?_ | with_reducible refine L2.My.w_lcL ?_ | with_reducible refine L2.My.w_lcT ?_ | with_reducible refine L2.My.w_lcR ?_
  | with_reducible refine L2.My.w_ifx ?_ | with_reducible refine L2.My.w_truB ?_ | with_reducible refine L2.My.w_truI ?_
  | with_reducible refine L2.My.w_eq rfl ?_ | with_reducible refine L2.My.w_ne rfl ?_)
local macro_rules | `(tactic| walk_at "W") => `(tactic| repeat (walk_at "s"))

-- needs W9
namespace L2.My
open PySem PySem.Spec PyProof.Rows
def top (i : Nat) : Stmt := PySem.Challenge.pw_threetiles_k14_whole_walks_across_tiles.main.body.getD i (.Pass ⟨0, 0, 0, 0⟩)
/-- where the classes stand -/
structure Zs where
  K : PySem.W.Frag
  c_FloorError : Addr
  c_BadNumber : Addr
  c_BadPoint : Addr
  c_BadCorner : Addr
  c_Barred : Addr
  c_NoCorner : Addr
  c_BadTile : Addr
  c_NoTile : Addr
  c_BadSide : Addr
  c_Root : Addr
  c_Floor : Addr

/-- what the top has left -/
structure Txt (Z : Zs) (mg : Str → Option Value) : Prop where
  n_isinstance : mg "isinstance" = none
  n_list : mg "list" = none
  n_int : mg "int" = none
  n_range : mg "range" = none
  n_len : mg "len" = none
  n_abs : mg "abs" = none
  n_sorted : mg "sorted" = none
  n_all : mg "all" = none
  n_tuple : mg "tuple" = none
  n_bool : mg "bool" = none
  n_enumerate : mg "enumerate" = none
  n_zip : mg "zip" = none
  g_gcd : mg "gcd" = some (.builtin "math.gcd")
  g_lcm : mg "lcm" = some (.builtin "math.lcm")
  g_FloorError : mg "FloorError" = some (.ref Z.c_FloorError)
  g_BadNumber : mg "BadNumber" = some (.ref Z.c_BadNumber)
  g_BadPoint : mg "BadPoint" = some (.ref Z.c_BadPoint)
  g_BadCorner : mg "BadCorner" = some (.ref Z.c_BadCorner)
  g_Barred : mg "Barred" = some (.ref Z.c_Barred)
  g_NoCorner : mg "NoCorner" = some (.ref Z.c_NoCorner)
  g_BadTile : mg "BadTile" = some (.ref Z.c_BadTile)
  g_NoTile : mg "NoTile" = some (.ref Z.c_NoTile)
  g_BadSide : mg "BadSide" = some (.ref Z.c_BadSide)
  g_Root : mg "Root" = some (.ref Z.c_Root)
  g_Floor : mg "Floor" = some (.ref Z.c_Floor)
  ki : KiT Z.K Z.c_Root
  nf_top : NoAttr Z.K Z.c_Root "top"
  nf_root : NoAttr Z.K Z.c_Root "root"
  nf_bottom : NoAttr Z.K Z.c_Root "bottom"
  ow : OwnB Z.K Z.c_Root
  ra : ∃ g, PySem.W.findIn Z.K (.ref Z.c_Root) "__radd__" = some (some (.ref g))
  rs : ∃ g, PySem.W.findIn Z.K (.ref Z.c_Root) "__rsub__" = some (some (.ref g))
  rm : ∃ g, PySem.W.findIn Z.K (.ref Z.c_Root) "__rmul__" = some (some (.ref g))
  c_Floor : Cls Z.K Z.c_Floor
  nf_Floor_shift : NoAttr Z.K Z.c_Floor "shift"
  nf_Floor__gauge : NoAttr Z.K Z.c_Floor "_gauge"
  x_BadNumber : OexC Z.K Z.c_BadNumber
  xn_BadNumber : PySem.W.findIn Z.K (.ref Z.c_BadNumber) "value" = some none
  xf_BadNumber : XfC Z.K Z.c_BadNumber
  xm_BadNumber : PySem.W.exmOne Z.K (.ref Z.c_BadNumber) (.ref Z.c_BadNumber) = some true
  x_BadPoint : OexC Z.K Z.c_BadPoint
  xn_BadPoint : PySem.W.findIn Z.K (.ref Z.c_BadPoint) "point" = some none
  xf_BadPoint : XfC Z.K Z.c_BadPoint
  xm_BadPoint : PySem.W.exmOne Z.K (.ref Z.c_BadPoint) (.ref Z.c_BadPoint) = some true
  x_BadCorner : OexC Z.K Z.c_BadCorner
  xn_BadCorner : PySem.W.findIn Z.K (.ref Z.c_BadCorner) "corner" = some none
  xf_BadCorner : XfC Z.K Z.c_BadCorner
  xm_BadCorner : PySem.W.exmOne Z.K (.ref Z.c_BadCorner) (.ref Z.c_BadCorner) = some true
  x_Barred : OexC Z.K Z.c_Barred
  xn_Barred : PySem.W.findIn Z.K (.ref Z.c_Barred) "direction" = some none
  xf_Barred : XfC Z.K Z.c_Barred
  xm_Barred : PySem.W.exmOne Z.K (.ref Z.c_Barred) (.ref Z.c_Barred) = some true
  x_NoCorner : OexC Z.K Z.c_NoCorner
  xn_NoCorner : PySem.W.findIn Z.K (.ref Z.c_NoCorner) "corner" = some none
  xf_NoCorner : XfC Z.K Z.c_NoCorner
  xm_NoCorner : PySem.W.exmOne Z.K (.ref Z.c_NoCorner) (.ref Z.c_NoCorner) = some true
  x_BadTile : OexC Z.K Z.c_BadTile
  xn_BadTile : PySem.W.findIn Z.K (.ref Z.c_BadTile) "tile" = some none
  xf_BadTile : XfC Z.K Z.c_BadTile
  xm_BadTile : PySem.W.exmOne Z.K (.ref Z.c_BadTile) (.ref Z.c_BadTile) = some true
  x_NoTile : OexC Z.K Z.c_NoTile
  xn_NoTile : PySem.W.findIn Z.K (.ref Z.c_NoTile) "tile" = some none
  xf_NoTile : XfC Z.K Z.c_NoTile
  xm_NoTile : PySem.W.exmOne Z.K (.ref Z.c_NoTile) (.ref Z.c_NoTile) = some true
  x_BadSide : OexC Z.K Z.c_BadSide
  xn_BadSide : PySem.W.findIn Z.K (.ref Z.c_BadSide) "side" = some none
  xf_BadSide : XfC Z.K Z.c_BadSide
  xm_BadSide : PySem.W.exmOne Z.K (.ref Z.c_BadSide) (.ref Z.c_BadSide) = some true
theorem Txt.c_Root {Z : Zs} {mg : Str → Option Value} (T : Txt Z mg) : Cls Z.K Z.c_Root := T.ki.ty
abbrev ThI (Z : Zs) (H : Hp) (v : V) : Prop := Th Z.c_Root H v
theorem Plain.thI {Z : Zs} {H : Hp} {v : V} (h : Plain H v) : ThI Z H v := h.th
theorem thI_ty {Z : Zs} {mg : Str → Option Value} {H : Hp} {v : V} (h : ThI Z H v) (T : Txt Z mg) : ∃ t, TyX Z.K H v t ∧ PySem.W.kitOne Z.K t (.type "int") = some (isI v || isB v) ∧ PySem.W.kitOne Z.K t (.type "bool") = some (isB v) := by
  obtain ⟨t, a, b, c, _⟩ := h.ty T.ki
  exact ⟨t, a, b, c⟩
theorem thI_same {Z : Zs} {H H' : Hp} {v : V} (h : ThI Z H v) (s : Same H H') : ThI Z H' v := h.same s
variable {P : Program} {w : World} {mg : Str → Option Value} {base : Heap} {Z : Zs}
abbrev s_is_integral : Stmt := top 13
theorem sc_is_integral : FnScope ["thing"] ["thing"] (defScope s_is_integral) := ⟨rfl, rfl, rfl, by decide +kernel, rfl, by decide +kernel, by decide +kernel⟩

def sp_is_integral (Z : Zs) : Sp := fun vs H Q E =>
  ∃ v, vs = [v] ∧ ThI Z H v ∧ Q (.bl (isI v)) H
theorem ok_is_integral (T : Txt Z mg)  (D : AtF Z.K mg "is_integral" "is_integral" s_is_integral ["thing"]) : Has P w Z.K mg base "is_integral" 1 ["thing"] (sp_is_integral Z) := by
  refine D.ok sc_is_integral (fun vs H Q E h => ?_) (fun cdv A outer s H vs Q E hr h => ?_)
  · obtain ⟨v, rfl, _⟩ := h
    rfl
  · refine ⟨_, (pss_one (ps_ret (pe_and (pe_callB call_isi rfl T.n_isinstance (by decide +kernel) (pa_cons (pv 0) (pa_cons (pe_bltn (v := .ty "int") rfl T.n_int (by decide +kernel) rfl) pa_nil))) (pe_one (pe_not (pe_callB call_isi rfl T.n_isinstance (by decide +kernel) (pa_cons (pv 0) (pa_cons (pe_bltn (v := .ty "bool") rfl T.n_bool (by decide +kernel) rfl) pa_nil)))))))), ?_⟩
    try simp only [cxOf]
    obtain ⟨v, rfl, hv, q⟩ := h
    obtain ⟨t, ty, k1, k2⟩ := thI_ty hv T
    walk_at "W"
    refine w_isi ty k1 ?_
    walk_at "W"
    cases e : isI v || isB v
    · walk_at "W"
      have : isI v = false := by cases v <;> simp_all [isI, isB]
      rw [this] at q; exact q
    · walk_at "W"
      refine w_isi ty k2 ?_
      walk_at "W"
      have : (!isB v) = isI v := by cases v <;> simp_all [isI, isB]
      rw [this]; exact q
abbrev s_BadPoint_init : Stmt := inClass (top 5) 0
theorem sc_BadPoint_init : FnScope ["self", "point"] ["self", "point"] (defScope s_BadPoint_init) := ⟨rfl, rfl, rfl, by decide +kernel, rfl, by decide +kernel, by decide +kernel⟩

def sp_BadPoint_init (Z : Zs) : Sp := fun vs H Q E =>
  spX Z.c_BadPoint "point" vs H Q E
theorem ok_BadPoint_init (T : Txt Z mg)  (D : AtX Z.K mg "BadPoint" Z.c_BadPoint "BadPoint.__init__" s_BadPoint_init ["self", "point"]) : HasX P w Z.K mg base "BadPoint" Z.c_BadPoint 1 ["self", "point"] (sp_BadPoint_init Z) := by
  refine D.ok sc_BadPoint_init (fun vs H Q E h => ?_) (fun cdv A outer s H vs Q E hr h => ?_)
  · obtain ⟨a, v, rfl, _⟩ := h
    rfl
  · refine ⟨_, (pss_one (ps_ost (pv 0) (pv 1))), ?_⟩
    try simp only [cxOf]
    obtain ⟨a, v, rfl, ha, q⟩ := h
    exact ⟨_, rfl, _, rfl, a, Z.c_BadPoint, rfl, T.x_BadPoint, T.xn_BadPoint, Or.inl ⟨ha, fun d hd hn => q d hd hn⟩⟩
abbrev s_BadCorner_init : Stmt := inClass (top 6) 0
theorem sc_BadCorner_init : FnScope ["self", "corner"] ["self", "corner"] (defScope s_BadCorner_init) := ⟨rfl, rfl, rfl, by decide +kernel, rfl, by decide +kernel, by decide +kernel⟩

def sp_BadCorner_init (Z : Zs) : Sp := fun vs H Q E =>
  spX Z.c_BadCorner "corner" vs H Q E
theorem ok_BadCorner_init (T : Txt Z mg)  (D : AtX Z.K mg "BadCorner" Z.c_BadCorner "BadCorner.__init__" s_BadCorner_init ["self", "corner"]) : HasX P w Z.K mg base "BadCorner" Z.c_BadCorner 1 ["self", "corner"] (sp_BadCorner_init Z) := by
  refine D.ok sc_BadCorner_init (fun vs H Q E h => ?_) (fun cdv A outer s H vs Q E hr h => ?_)
  · obtain ⟨a, v, rfl, _⟩ := h
    rfl
  · refine ⟨_, (pss_one (ps_ost (pv 0) (pv 1))), ?_⟩
    try simp only [cxOf]
    obtain ⟨a, v, rfl, ha, q⟩ := h
    exact ⟨_, rfl, _, rfl, a, Z.c_BadCorner, rfl, T.x_BadCorner, T.xn_BadCorner, Or.inl ⟨ha, fun d hd hn => q d hd hn⟩⟩
abbrev s_Barred_init : Stmt := inClass (top 7) 0
theorem sc_Barred_init : FnScope ["self", "direction"] ["self", "direction"] (defScope s_Barred_init) := ⟨rfl, rfl, rfl, by decide +kernel, rfl, by decide +kernel, by decide +kernel⟩

def sp_Barred_init (Z : Zs) : Sp := fun vs H Q E =>
  spX Z.c_Barred "direction" vs H Q E
theorem ok_Barred_init (T : Txt Z mg)  (D : AtX Z.K mg "Barred" Z.c_Barred "Barred.__init__" s_Barred_init ["self", "direction"]) : HasX P w Z.K mg base "Barred" Z.c_Barred 1 ["self", "direction"] (sp_Barred_init Z) := by
  refine D.ok sc_Barred_init (fun vs H Q E h => ?_) (fun cdv A outer s H vs Q E hr h => ?_)
  · obtain ⟨a, v, rfl, _⟩ := h
    rfl
  · refine ⟨_, (pss_one (ps_ost (pv 0) (pv 1))), ?_⟩
    try simp only [cxOf]
    obtain ⟨a, v, rfl, ha, q⟩ := h
    exact ⟨_, rfl, _, rfl, a, Z.c_Barred, rfl, T.x_Barred, T.xn_Barred, Or.inl ⟨ha, fun d hd hn => q d hd hn⟩⟩
abbrev s_NoCorner_init : Stmt := inClass (top 8) 0
theorem sc_NoCorner_init : FnScope ["self", "corner"] ["self", "corner"] (defScope s_NoCorner_init) := ⟨rfl, rfl, rfl, by decide +kernel, rfl, by decide +kernel, by decide +kernel⟩

def sp_NoCorner_init (Z : Zs) : Sp := fun vs H Q E =>
  spX Z.c_NoCorner "corner" vs H Q E
theorem ok_NoCorner_init (T : Txt Z mg)  (D : AtX Z.K mg "NoCorner" Z.c_NoCorner "NoCorner.__init__" s_NoCorner_init ["self", "corner"]) : HasX P w Z.K mg base "NoCorner" Z.c_NoCorner 1 ["self", "corner"] (sp_NoCorner_init Z) := by
  refine D.ok sc_NoCorner_init (fun vs H Q E h => ?_) (fun cdv A outer s H vs Q E hr h => ?_)
  · obtain ⟨a, v, rfl, _⟩ := h
    rfl
  · refine ⟨_, (pss_one (ps_ost (pv 0) (pv 1))), ?_⟩
    try simp only [cxOf]
    obtain ⟨a, v, rfl, ha, q⟩ := h
    exact ⟨_, rfl, _, rfl, a, Z.c_NoCorner, rfl, T.x_NoCorner, T.xn_NoCorner, Or.inl ⟨ha, fun d hd hn => q d hd hn⟩⟩
abbrev s_BadTile_init : Stmt := inClass (top 9) 0
theorem sc_BadTile_init : FnScope ["self", "tile"] ["self", "tile"] (defScope s_BadTile_init) := ⟨rfl, rfl, rfl, by decide +kernel, rfl, by decide +kernel, by decide +kernel⟩

def sp_BadTile_init (Z : Zs) : Sp := fun vs H Q E =>
  spX Z.c_BadTile "tile" vs H Q E
theorem ok_BadTile_init (T : Txt Z mg)  (D : AtX Z.K mg "BadTile" Z.c_BadTile "BadTile.__init__" s_BadTile_init ["self", "tile"]) : HasX P w Z.K mg base "BadTile" Z.c_BadTile 1 ["self", "tile"] (sp_BadTile_init Z) := by
  refine D.ok sc_BadTile_init (fun vs H Q E h => ?_) (fun cdv A outer s H vs Q E hr h => ?_)
  · obtain ⟨a, v, rfl, _⟩ := h
    rfl
  · refine ⟨_, (pss_one (ps_ost (pv 0) (pv 1))), ?_⟩
    try simp only [cxOf]
    obtain ⟨a, v, rfl, ha, q⟩ := h
    exact ⟨_, rfl, _, rfl, a, Z.c_BadTile, rfl, T.x_BadTile, T.xn_BadTile, Or.inl ⟨ha, fun d hd hn => q d hd hn⟩⟩
abbrev s_NoTile_init : Stmt := inClass (top 10) 0
theorem sc_NoTile_init : FnScope ["self", "tile"] ["self", "tile"] (defScope s_NoTile_init) := ⟨rfl, rfl, rfl, by decide +kernel, rfl, by decide +kernel, by decide +kernel⟩

def sp_NoTile_init (Z : Zs) : Sp := fun vs H Q E =>
  spX Z.c_NoTile "tile" vs H Q E
theorem ok_NoTile_init (T : Txt Z mg)  (D : AtX Z.K mg "NoTile" Z.c_NoTile "NoTile.__init__" s_NoTile_init ["self", "tile"]) : HasX P w Z.K mg base "NoTile" Z.c_NoTile 1 ["self", "tile"] (sp_NoTile_init Z) := by
  refine D.ok sc_NoTile_init (fun vs H Q E h => ?_) (fun cdv A outer s H vs Q E hr h => ?_)
  · obtain ⟨a, v, rfl, _⟩ := h
    rfl
  · refine ⟨_, (pss_one (ps_ost (pv 0) (pv 1))), ?_⟩
    try simp only [cxOf]
    obtain ⟨a, v, rfl, ha, q⟩ := h
    exact ⟨_, rfl, _, rfl, a, Z.c_NoTile, rfl, T.x_NoTile, T.xn_NoTile, Or.inl ⟨ha, fun d hd hn => q d hd hn⟩⟩
abbrev s_BadSide_init : Stmt := inClass (top 11) 0
theorem sc_BadSide_init : FnScope ["self", "side"] ["self", "side"] (defScope s_BadSide_init) := ⟨rfl, rfl, rfl, by decide +kernel, rfl, by decide +kernel, by decide +kernel⟩

def sp_BadSide_init (Z : Zs) : Sp := fun vs H Q E =>
  spX Z.c_BadSide "side" vs H Q E
theorem ok_BadSide_init (T : Txt Z mg)  (D : AtX Z.K mg "BadSide" Z.c_BadSide "BadSide.__init__" s_BadSide_init ["self", "side"]) : HasX P w Z.K mg base "BadSide" Z.c_BadSide 1 ["self", "side"] (sp_BadSide_init Z) := by
  refine D.ok sc_BadSide_init (fun vs H Q E h => ?_) (fun cdv A outer s H vs Q E hr h => ?_)
  · obtain ⟨a, v, rfl, _⟩ := h
    rfl
  · refine ⟨_, (pss_one (ps_ost (pv 0) (pv 1))), ?_⟩
    try simp only [cxOf]
    obtain ⟨a, v, rfl, ha, q⟩ := h
    exact ⟨_, rfl, _, rfl, a, Z.c_BadSide, rfl, T.x_BadSide, T.xn_BadSide, Or.inl ⟨ha, fun d hd hn => q d hd hn⟩⟩
abbrev s_BadNumber_init : Stmt := inClass (top 4) 0
theorem sc_BadNumber_init : FnScope ["self", "value"] ["self", "value"] (defScope s_BadNumber_init) := ⟨rfl, rfl, rfl, by decide +kernel, rfl, by decide +kernel, by decide +kernel⟩

def sp_BadNumber_init (Z : Zs) : Sp := fun vs H Q E =>
  spX Z.c_BadNumber "value" vs H Q E
theorem ok_BadNumber_init (T : Txt Z mg)  (D : AtX Z.K mg "BadNumber" Z.c_BadNumber "BadNumber.__init__" s_BadNumber_init ["self", "value"]) : HasX P w Z.K mg base "BadNumber" Z.c_BadNumber 1 ["self", "value"] (sp_BadNumber_init Z) := by
  refine D.ok sc_BadNumber_init (fun vs H Q E h => ?_) (fun cdv A outer s H vs Q E hr h => ?_)
  · obtain ⟨a, v, rfl, _⟩ := h
    rfl
  · refine ⟨_, (pss_one (ps_ost (pv 0) (pv 1))), ?_⟩
    try simp only [cxOf]
    obtain ⟨a, v, rfl, ha, q⟩ := h
    exact ⟨_, rfl, _, rfl, a, Z.c_BadNumber, rfl, T.x_BadNumber, T.xn_BadNumber, Or.inl ⟨ha, fun d hd hn => q d hd hn⟩⟩
/-- the common divisor with the sign that the bottom shall lose -/
def sg (t r b : Int) : Int := if b < 0 then -(((t.natAbs.gcd r.natAbs).gcd b.natAbs : Nat) : Int) else (((t.natAbs.gcd r.natAbs).gcd b.natAbs : Nat) : Int)
def lowT (t r b : Int) : Int := t.fdiv (sg t r b)
def lowR (t r b : Int) : Int := r.fdiv (sg t r b)
def lowB (t r b : Int) : Int := b.fdiv (sg t r b)
/-- the first of three that is no integer, or the last one if it is 0 -/
def badOf (a b c : V) : Option V := if isI a = false then some a else if isI b = false then some b else if isI c = false then some c else if c = .int 0 then some (.int 0) else none
theorem isI_int {v : V} (h : isI v = true) : ∃ i, v = .int i := by cases v <;> simp_all [isI]
theorem sg_ne {t r b : Int} (h : b ≠ 0) : sg t r b ≠ 0 := by
  have : 0 < (t.natAbs.gcd r.natAbs).gcd b.natAbs := Nat.gcd_pos_of_pos_right _ (Int.natAbs_pos.mpr h)
  unfold sg
  split <;> omega
theorem sg_le {t r b : Int} (h : b ≠ 0) : (sg t r b).natAbs ≤ b.natAbs := by
  have : (t.natAbs.gcd r.natAbs).gcd b.natAbs ≤ b.natAbs := Nat.le_of_dvd (Int.natAbs_pos.mpr h) (Nat.gcd_dvd_right _ _)
  unfold sg
  split <;> omega
theorem sg_div {t r b x : Int} (h : b ≠ 0) (hb : Bd b) : CDivN9 x (sg t r b) :=
  ⟨sg_ne h, Nat.lt_of_lt_of_le (PySem.Flt.log2_lt_of (by decide) (Nat.lt_of_le_of_lt (sg_le h) hb)) (by decide)⟩
abbrev s_Root_init : Stmt := inClass (top 18) 0
theorem sc_Root_init : FnScope ["self", "top", "root", "bottom", "value", "shared"] ["self", "top", "root", "bottom"] (defScope s_Root_init) := ⟨rfl, rfl, rfl, by decide +kernel, rfl, by decide +kernel, by decide +kernel⟩

def sp_Root_init (Z : Zs) : Sp := fun vs H Q E =>
  ∃ p dx a b c, vs = [.ref p, a, b, c] ∧ H p = some (.ins Z.c_Root dx []) ∧ Th Z.c_Root H a ∧ Th Z.c_Root H b ∧ Th Z.c_Root H c ∧ (∀ k, c = .int k → Bd k) ∧
    (∀ i j k, a = .int i → b = .int j → c = .int k → k ≠ 0 → ∀ H', SameX p H H' → H' p = some (.ins Z.c_Root dx (rootF (lowT i j k) (lowR i j k) (lowB i j k))) → Q .non H') ∧
    (∀ v, badOf a b c = some v → ∀ d H', H d = none → SameX p H H' → H' d = some (.xd [("value", v)]) → E (.ref Z.c_BadNumber) (some d) H')
theorem ok_Root_init (T : Txt Z mg) (h_BadNumber : HasX P w Z.K mg base "BadNumber" Z.c_BadNumber 1 ["self", "value"] (sp_BadNumber_init Z)) (h_is_integral : Has P w Z.K mg base "is_integral" 1 ["thing"] (sp_is_integral Z)) (D : AtC Z.K mg "Root" Z.c_Root "Root.__init__" s_Root_init ["self", "top", "root", "bottom"]) : HasC P w Z.K mg base "Root" Z.c_Root 3 ["self", "top", "root", "bottom"] (sp_Root_init Z) := by
  refine D.ok sc_Root_init (fun vs H Q E h => ?_) (fun cdv A outer s H vs Q E hr h => ?_)
  · obtain ⟨p, dx, a, b, c, rfl, _⟩ := h
    rfl
  · refine ⟨_, (pss_cons (ps_for (passes_of rfl) rfl (pi_tup (pe_tup (pa_cons (pv 1) (pa_cons (pv 2) (pa_cons (pv 3) pa_nil))))) (pg_name (i := 4) sc_Root_init.nd rfl (Or.inl rfl)) (pss_one (ps_if (pt_not (pt_val (pe_h (E := ED E) h_is_integral hr (paW (takes_of rfl rfl rfl rfl)) (pa_cons (pv 4) pa_nil)))) (pss_one (ps_raise rfl (takes_of rfl rfl rfl rfl) (pm_h T.x_BadNumber h_BadNumber hr (pa_cons (pv 4) pa_nil)))) pss_nil)))
      (pss_cons (ps_if (pt_cmpR op_eq (pv 3) pe_int (nomark _)) (pss_one (ps_raise rfl (takes_of rfl rfl rfl rfl) (pm_h T.x_BadNumber h_BadNumber hr (pa_cons (pv 3) pa_nil)))) pss_nil)
      (pss_cons (ps_set (i := 5) sc_Root_init.nd rfl (Or.inl rfl) (pe_callBfun cr_gcd3 rfl T.g_gcd (pa_cons (pv 1) (pa_cons (pv 2) (pa_cons (pv 3) pa_nil)))))
      (pss_cons (ps_if (pt_cmpR op_lt (pv 3) pe_int (nomark _)) (pss_one (ps_set (i := 5) sc_Root_init.nd rfl (Or.inl rfl) (pe_un un_neg (pv 5)))) pss_nil)
      (pss_cons (ps_fld (pv 0) (pe_op op_fdivV (pv 1) (pv 5)) rfl)
      (pss_cons (ps_fld (pv 0) (pe_op op_fdivV (pv 2) (pv 5)) rfl)
      (pss_one (ps_fld (pv 0) (pe_op op_fdivV (pv 3) (pv 5)) rfl)))))))), ?_⟩
    try simp only [cxOf]
    obtain ⟨p, dx, a, b, c, rfl, hp, ha, hb, hc, hk, ok, er⟩ := h
    walk_at "W"
    refine k_tup rfl fun p0 H1 hp0 s1 e1 => ?_
    refine k_forT (fun i σ H' => ∃ v, σ = [some (.ref p), some a, some b, some c, v, none] ∧ Same H1 H' ∧ ∀ j x, j < i → [a, b, c][j]? = some x → isI x = true) e1 ⟨none, rfl, Same.refl _, fun j x hj => absurd hj (Nat.not_lt_zero _)⟩ (fun i σ H' ⟨_, _, s2, _⟩ => s2 _ _ e1) ?_ ?_
    · rintro i x σ H' hx ⟨v, rfl, s2, hi⟩
      have s3 := s1.trans s2
      have hxT : Th Z.c_Root H' x := by
        rcases i with _ | _ | _ | i
        · cases hx; exact ha.same s3
        · cases hx; exact hb.same s3
        · cases hx; exact hc.same s3
        · simp at hx
      have bad : isI x = false → badOf a b c = some x := fun e => by
        rcases i with _ | _ | _ | i
        · cases hx; unfold badOf; rw [if_pos e]
        · cases hx; unfold badOf; rw [if_neg (by rw [hi 0 a (by decide) rfl]; simp), if_pos e]
        · cases hx; unfold badOf; rw [if_neg (by rw [hi 0 a (by decide) rfl]; simp), if_neg (by rw [hi 1 b (by decide) rfl]; simp), if_pos e]
        · simp at hx
      walk_at "W"
      refine ⟨x, rfl, hxT, ?_⟩
      walk_at "W"
      cases e : isI x
      · walk_at "W"
        refine k_mkO fun d H2 hd s4 e4 => ?_
        exact er x (bad e) d H2 (s3.free hd) (Same.x (s3.trans s4)) e4
      · walk_at "W"
        refine ⟨_, rfl, s2, fun j y hj hy => ?_⟩
        rcases Nat.lt_or_eq_of_le (Nat.lt_succ_iff.mp hj) with h | h
        · exact hi j y h hy
        · subst h; rw [hx] at hy; cases hy; exact e
    · rintro σ H' ⟨v, rfl, s2, hi⟩
      have s3 := s1.trans s2
      obtain ⟨i, rfl⟩ := isI_int (hi 0 a (by simp) rfl)
      obtain ⟨j, rfl⟩ := isI_int (hi 1 b (by simp) rfl)
      obtain ⟨k, rfl⟩ := isI_int (hi 2 c (by simp) rfl)
      walk_at "W"
      refine w_ite (fun h => ?_) (fun h => ?_)
      · obtain rfl : k = 0 := by injection h
        walk_at "W"
        refine k_mkO fun d H2 hd s4 e4 => ?_
        exact er _ rfl d H2 (s3.free hd) (Same.x (s3.trans s4)) e4
      · have hk0 : k ≠ 0 := fun z => h (by rw [z])
        have hkb := hk k rfl
        walk_at "W"
        refine ⟨i, j, k, rfl, ?_⟩
        walk_at "W"
        have hd : ∀ x, CDivN9 x (sg i j k) := fun x => sg_div hk0 hkb
        refine w_ite (fun hn => ?_) (fun hn => ?_)
        · walk_at "W"
          have eg : sg i j k = -(((i.natAbs.gcd j.natAbs).gcd k.natAbs : Nat) : Int) := if_pos hn
          rw [← eg]
          refine w_I (hd i) ?_
          walk_at "W"
          refine w_sto (s3 _ _ hp) T.c_Root T.nf_top rfl fun H3 s5 e5 => ?_
          rw [put1] at e5
          walk_at "W"
          refine w_I (hd j) ?_
          walk_at "W"
          refine w_sto e5 T.c_Root T.nf_root rfl fun H4 s6 e6 => ?_
          rw [put2] at e6
          walk_at "W"
          refine w_I (hd k) ?_
          walk_at "W"
          refine w_sto e6 T.c_Root T.nf_bottom rfl fun H5 s7 e7 => ?_
          rw [put3] at e7
          exact ok i j k rfl rfl rfl hk0 H5 ((Same.x s3).trans (s5.trans (s6.trans s7))) e7
        · walk_at "W"
          have eg : sg i j k = (((i.natAbs.gcd j.natAbs).gcd k.natAbs : Nat) : Int) := if_neg hn
          rw [← eg]
          refine w_I (hd i) ?_
          walk_at "W"
          refine w_sto (s3 _ _ hp) T.c_Root T.nf_top rfl fun H3 s5 e5 => ?_
          rw [put1] at e5
          walk_at "W"
          refine w_I (hd j) ?_
          walk_at "W"
          refine w_sto e5 T.c_Root T.nf_root rfl fun H4 s6 e6 => ?_
          rw [put2] at e6
          walk_at "W"
          refine w_I (hd k) ?_
          walk_at "W"
          refine w_sto e6 T.c_Root T.nf_bottom rfl fun H5 s7 e7 => ?_
          rw [put3] at e7
          exact ok i j k rfl rfl rfl hk0 H5 ((Same.x s3).trans (s5.trans (s6.trans s7))) e7
/-- what == says of a number and a thing -/
def eqRt (H : Hp) (t r b : Int) : V → Bool
  | .int n => decide (r = 0) && (decide (b = 1) && decide (t = n))
  | .ref a => match H a with
    | some (.ins _ _ fs) => decide (fs = rootF t r b)
    | _ => false
  | _ => false
abbrev s_Root_eq : Stmt := inClass (top 18) 1
theorem sc_Root_eq : FnScope ["self", "other"] ["self", "other"] (defScope s_Root_eq) := ⟨rfl, rfl, rfl, by decide +kernel, rfl, by decide +kernel, by decide +kernel⟩

def sp_Root_eq (Z : Zs) : Sp := fun vs H Q E =>
  ∃ v o t r b, vs = [v, o] ∧ RootAt Z.c_Root H v t r b ∧ Th Z.c_Root H o ∧ Q (.bl (eqRt H t r b o)) H
theorem ok_Root_eq (T : Txt Z mg) (h_is_integral : Has P w Z.K mg base "is_integral" 1 ["thing"] (sp_is_integral Z)) (D : AtM Z.K Z.c_Root "__eq__" "Root.__eq__" s_Root_eq ["self", "other"]) : HasM P w Z.K mg base Z.c_Root "__eq__" 2 ["self", "other"] (sp_Root_eq Z) := by
  refine D.ok sc_Root_eq (fun vs H Q E h => ?_) (fun cdv A outer s H vs Q E hr h => ?_)
  · obtain ⟨v, o, t, r, b, rfl, _⟩ := h
    rfl
  · refine ⟨_, (pss_cons (ps_if (pt_val (pe_callB call_isi rfl T.n_isinstance (by decide +kernel) (pa_cons (pv 1) (pa_cons (pe_glob (v := .ref Z.c_Root) rfl T.g_Root rfl) pa_nil)))) (pss_one (ps_ret (pe_and (pe_cmpR op_eq (pe_fld (pv 0) rfl) (pe_fld (pv 1) rfl) (nomark _)) (pe_and (pe_cmpR op_eq (pe_fld (pv 0) rfl) (pe_fld (pv 1) rfl) (nomark _)) (pe_one (pe_cmpR op_eq (pe_fld (pv 0) rfl) (pe_fld (pv 1) rfl) (nomark _))))))) pss_nil)
      (pss_one (ps_ret (pe_and (pe_h (E := ED E) h_is_integral hr (paW (takes_of rfl rfl rfl rfl)) (pa_cons (pv 1) pa_nil)) (pe_and (pe_cmpR op_eq (pe_fld (pv 0) rfl) pe_int (nomark _)) (pe_and (pe_cmpR op_eq (pe_fld (pv 0) rfl) pe_int (nomark _)) (pe_one (pe_cmpR op_eq (pe_fld (pv 0) rfl) (pv 1) (nomark _))))))))), ?_⟩
    try simp only [cxOf]
    obtain ⟨v, o, t, r, b, rfl, ⟨a, dx, rfl, ha⟩, ho, q⟩ := h
    obtain ⟨ty, hty, k1, k2, k3, _⟩ := ho.ty T.ki
    walk_at "W"
    refine w_isiC hty k3 ?_
    walk_at "W"
    cases ho with
    | root a' dx' t' r' b' e =>
      have ic : isC Z.c_Root H (.ref a') = true := by
        show (match H a' with | some (.ins C _ _) => decide (C = Z.c_Root) | _ => false) = true
        rw [e]
        exact decide_eq_true rfl
      have er : eqRt H t r b (.ref a') = (decide (t = t') && (decide (r = r') && decide (b = b'))) := by
        show (match H a' with | some (.ins _ _ fs) => decide (fs = rootF t r b) | _ => false) = _
        rw [e]
        simp only [rf_eq, Bool.decide_and]
        rw [decide_eq_decide.mpr (eq_comm (a := t') (b := t)), decide_eq_decide.mpr (eq_comm (a := r') (b := r)), decide_eq_decide.mpr (eq_comm (a := b') (b := b))]
      rw [ic]
      rw [er] at q
      walk_at "W"
      refine w_fld ha T.c_Root T.nf_top (rf_top _ _ _) ?_
      walk_at "W"
      refine w_fld e T.c_Root T.nf_top (rf_top _ _ _) ?_
      walk_at "W"
      rw [decide_eq_decide.mpr (show V.int t = V.int t' ↔ t = t' by simp)]
      cases h1 : decide (t = t')
      · walk_at "W"
        rw [h1] at q
        exact q
      walk_at "W"
      refine w_fld ha T.c_Root T.nf_root (rf_root _ _ _) ?_
      walk_at "W"
      refine w_fld e T.c_Root T.nf_root (rf_root _ _ _) ?_
      walk_at "W"
      rw [decide_eq_decide.mpr (show V.int r = V.int r' ↔ r = r' by simp)]
      cases h2 : decide (r = r')
      · walk_at "W"
        rw [h1, h2] at q
        exact q
      walk_at "W"
      refine w_fld ha T.c_Root T.nf_bottom (rf_bottom _ _ _) ?_
      walk_at "W"
      refine w_fld e T.c_Root T.nf_bottom (rf_bottom _ _ _) ?_
      walk_at "W"
      rw [decide_eq_decide.mpr (show V.int b = V.int b' ↔ b = b' by simp)]
      rw [h1, h2] at q
      exact q
    | int n =>
      walk_at "W"
      refine ⟨_, rfl, .int n, ?_⟩
      walk_at "W"
      refine w_fld ha T.c_Root T.nf_root (rf_root _ _ _) ?_
      walk_at "W"
      have q' : Q (.bl (decide (r = 0) && (decide (b = 1) && decide (t = n)))) H := q
      rw [decide_eq_decide.mpr (show V.int r = V.int 0 ↔ r = 0 by simp)]
      cases h1 : decide (r = 0)
      · walk_at "W"
        rw [h1] at q'
        exact q'
      walk_at "W"
      refine w_fld ha T.c_Root T.nf_bottom (rf_bottom _ _ _) ?_
      walk_at "W"
      rw [decide_eq_decide.mpr (show V.int b = V.int 1 ↔ b = 1 by simp)]
      cases h2 : decide (b = 1)
      · walk_at "W"
        rw [h1, h2] at q'
        exact q'
      walk_at "W"
      refine w_fld ha T.c_Root T.nf_top (rf_top _ _ _) ?_
      walk_at "W"
      rw [decide_eq_decide.mpr (show V.int t = V.int n ↔ t = n by simp)]
      rw [h1, h2] at q'
      exact q'
    | non => walk_at "W"; exact ⟨_, rfl, .non, by walk_at "W"; exact q⟩
    | bl y => walk_at "W"; exact ⟨_, rfl, .bl y, by walk_at "W"; exact q⟩
    | str y => walk_at "W"; exact ⟨_, rfl, .str y, by walk_at "W"; exact q⟩
    | lst a' xs e =>
      have ic : isC Z.c_Root H (.ref a') = false := by unfold isC; simp only [e]
      have er : eqRt H t r b (.ref a') = false := by unfold eqRt; simp only [e]
      rw [ic]; rw [er] at q
      walk_at "W"; exact ⟨_, rfl, .lst a' xs e, by walk_at "W"; exact q⟩
    | tup a' xs e =>
      have ic : isC Z.c_Root H (.ref a') = false := by unfold isC; simp only [e]
      have er : eqRt H t r b (.ref a') = false := by unfold eqRt; simp only [e]
      rw [ic]; rw [er] at q
      walk_at "W"; exact ⟨_, rfl, .tup a' xs e, by walk_at "W"; exact q⟩
    | dK a' xs e =>
      have ic : isC Z.c_Root H (.ref a') = false := by unfold isC; simp only [e]
      have er : eqRt H t r b (.ref a') = false := by unfold eqRt; simp only [e]
      rw [ic]; rw [er] at q
      walk_at "W"; exact ⟨_, rfl, .dK a' xs e, by walk_at "W"; exact q⟩
/-- Root(a, b, c) of any things, from its __init__'s promise -/
theorem k_mkRoot {a b c : V} {H : Hp} {Q : VK} {E : XK} (ha : Th Z.c_Root H a) (hb : Th Z.c_Root H b) (hc : Th Z.c_Root H c) (hk : ∀ k, c = .int k → Bd k)
    (ok : ∀ i j k, a = .int i → b = .int j → c = .int k → k ≠ 0 → ∀ v H', Same H H' → RootAt Z.c_Root H' v (lowT i j k) (lowR i j k) (lowB i j k) → Q v H')
    (er : ∀ v, badOf a b c = some v → ∀ d H', H d = none → Same H H' → H' d = some (.xd [("value", v)]) → E (.ref Z.c_BadNumber) (some d) H') : MkC Z.c_Root (sp_Root_init Z) E [a, b, c] H Q := by
  intro x dx nx ndx nex
  have s0 : Same H (upd (upd H dx (.own x)) x (.ins Z.c_Root dx [])) := fun b o e => by
    rw [upd_ne (ne_of_none e nx), upd_ne (ne_of_none e ndx)]; exact e
  have sx : ∀ H', SameX x (upd (upd H dx (.own x)) x (.ins Z.c_Root dx [])) H' → Same H H' := fun H' s b o e => s b o (ne_of_none e nx) (s0 b o e)
  refine ⟨x, dx, a, b, c, rfl, upd_same, ha.same s0, hb.same s0, hc.same s0, hk, fun i j k e1 e2 e3 n H' s e => ⟨rfl, ok i j k e1 e2 e3 n _ H' (sx H' s) ⟨x, dx, rfl, e⟩⟩, fun v e d H' hd s ed => er v e d H' ?_ (sx H' s) ed⟩
  cases q : H d with
  | none => rfl
  | some o => rw [s0 d o q] at hd; cases hd
/-- .. of three ints, the last one not 0 -/
theorem k_mkRootI {i j k : Int} {H : Hp} {Q : VK} {E : XK} (n : k ≠ 0) (hk : Bd k)
    (ok : ∀ v H', Same H H' → RootAt Z.c_Root H' v (lowT i j k) (lowR i j k) (lowB i j k) → Q v H') : MkC Z.c_Root (sp_Root_init Z) E [.int i, .int j, .int k] H Q :=
  k_mkRoot (.int i) (.int j) (.int k) (fun k' e => by injection e with e; rw [← e]; exact hk) (fun i' j' k' e1 e2 e3 _ => by injection e1 with e1; injection e2 with e2; injection e3 with e3; rw [← e1, ← e2, ← e3]; exact ok)
    (fun v e => by
      exfalso
      unfold badOf at e
      rw [if_neg (by simp [isI]), if_neg (by simp [isI]), if_neg (by simp [isI]), if_neg (by intro z; injection z with z; exact n z)] at e
      cases e)
abbrev s_Root_neg : Stmt := inClass (top 18) 8
theorem sc_Root_neg : FnScope ["self"] ["self"] (defScope s_Root_neg) := ⟨rfl, rfl, rfl, by decide +kernel, rfl, by decide +kernel, by decide +kernel⟩

def sp_Root_neg (Z : Zs) : Sp := fun vs H Q E =>
  ∃ v t r b, vs = [v] ∧ RootAt Z.c_Root H v t r b ∧ b ≠ 0 ∧ Bd b ∧ ∀ v' H', Same H H' → RootAt Z.c_Root H' v' (lowT (-t) (-r) b) (lowR (-t) (-r) b) (lowB (-t) (-r) b) → Q v' H'
theorem ok_Root_neg (T : Txt Z mg) (h_Root : HasC P w Z.K mg base "Root" Z.c_Root 3 ["self", "top", "root", "bottom"] (sp_Root_init Z)) (D : AtM Z.K Z.c_Root "__neg__" "Root.__neg__" s_Root_neg ["self"]) : HasM P w Z.K mg base Z.c_Root "__neg__" 5 ["self"] (sp_Root_neg Z) := by
  refine D.ok sc_Root_neg (fun vs H Q E h => ?_) (fun cdv A outer s H vs Q E hr h => ?_)
  · obtain ⟨v, t, r, b, rfl, _⟩ := h
    rfl
  · refine ⟨_, (pss_one (ps_ret (pe_hc (E := ED E) h_Root hr (paW (takes_of rfl rfl rfl rfl)) (pa_cons (pe_un un_neg (pe_fld (pv 0) rfl)) (pa_cons (pe_un un_neg (pe_fld (pv 0) rfl)) (pa_cons (pe_fld (pv 0) rfl) pa_nil)))))), ?_⟩
    try simp only [cxOf]
    obtain ⟨v, t, r, b, rfl, ⟨a, dx, rfl, ha⟩, hb, hk, q⟩ := h
    walk_at "W"
    refine w_fld ha T.c_Root T.nf_top (rf_top _ _ _) ?_
    walk_at "W"
    refine w_fld ha T.c_Root T.nf_root (rf_root _ _ _) ?_
    walk_at "W"
    refine w_fld ha T.c_Root T.nf_bottom (rf_bottom _ _ _) ?_
    walk_at "W"
    exact k_mkRootI hb hk q
local macro_rules | `(tactic| walk_at "bw") => `(tactic| first | assumption | exact L2.My.Bw.two | exact L2.My.Bw.zero | exact L2.My.Bw.one | ((refine' L2.My.Bw.mul ?hx ?hy); (case hx => walk_at "bw"); (case hy => walk_at "bw")) | ((refine' L2.My.Bw.add ?hx ?hy); (case hx => walk_at "bw"); (case hy => walk_at "bw")) | ((refine' L2.My.Bw.sub ?hx ?hy); (case hx => walk_at "bw"); (case hy => walk_at "bw")) | ((refine' L2.My.Bw.neg ?hx); (case hx => walk_at "bw")))
local macro_rules | `(tactic| walk_at "mul") => `(tactic| ((refine' L2.My.w_I (L2.My.bwm (m := ?m) (n := ?n) ?hx ?hy ?hm) ?_); (case hx => walk_at "bw"); (case hy => walk_at "bw"); (case hm => decide)))
/-- what two numbers make -/
structure F3 where
  t : Int → Int → Int → Int → Int → Int → Int
  r : Int → Int → Int → Int → Int → Int → Int
  b : Int → Int → Int → Int → Int → Int → Int
def plus : F3 := ⟨fun t _ b t' _ b' => t * b' + t' * b, fun _ r b _ r' b' => r * b' + r' * b, fun _ _ b _ _ b' => b * b'⟩
def minus : F3 := ⟨fun t _ b t' _ b' => t * b' - t' * b, fun _ r b _ r' b' => r * b' - r' * b, fun _ _ b _ _ b' => b * b'⟩
def times : F3 := ⟨fun t r _ t' r' _ => t * t' + 2 * r * r', fun t r _ t' r' _ => t * r' + r * t', fun _ _ b _ _ b' => b * b'⟩
/-- other minus one -/
def back (F : F3) : F3 := ⟨fun t r b t' r' b' => F.t t' r' b' t r b, fun t r b t' r' b' => F.r t' r' b' t r b, fun t r b t' r' b' => F.b t' r' b' t r b⟩
/-- three parts that are not too great -/
def B3 (t r b : Int) : Prop := Bw 1000 t ∧ Bw 1000 r ∧ Bw 1000 b
def T3 (H : Hp) (p : Addr) (t r b : Int) : Prop := H p = some (.tup [.int t, .int r, .int b])
def spTwo (F : F3) : Sp := fun vs H Q _ => ∃ p p' t r b t' r' b', vs = [.ref p, .ref p'] ∧ T3 H p t r b ∧ T3 H p' t' r' b' ∧ B3 t r b ∧ B3 t' r' b' ∧
  ∀ u H', H u = none → Same H H' → T3 H' u (F.t t r b t' r' b') (F.r t r b t' r' b') (F.b t r b t' r' b') → Q (.ref u) H'
/-! ### lowest terms -/
theorem fdiv_exact {g x : Int} (h : g ≠ 0) (d : g ∣ x) : x.fdiv g * g = x := by
  obtain ⟨c, rfl⟩ := d
  rw [Int.mul_comm g c, Int.mul_fdiv_cancel _ h]
theorem sg_dvd (t r b : Int) : sg t r b ∣ t ∧ sg t r b ∣ r ∧ sg t r b ∣ b := by
  have h1 : (((t.natAbs.gcd r.natAbs).gcd b.natAbs : Nat) : Int) ∣ t := Int.ofNat_dvd_left.mpr (Nat.dvd_trans (Nat.gcd_dvd_left _ _) (Nat.gcd_dvd_left _ _))
  have h2 : (((t.natAbs.gcd r.natAbs).gcd b.natAbs : Nat) : Int) ∣ r := Int.ofNat_dvd_left.mpr (Nat.dvd_trans (Nat.gcd_dvd_left _ _) (Nat.gcd_dvd_right _ _))
  have h3 : (((t.natAbs.gcd r.natAbs).gcd b.natAbs : Nat) : Int) ∣ b := Int.ofNat_dvd_left.mpr (Nat.gcd_dvd_right _ _)
  unfold sg
  split
  · exact ⟨Int.neg_dvd.mpr h1, Int.neg_dvd.mpr h2, Int.neg_dvd.mpr h3⟩
  · exact ⟨h1, h2, h3⟩
/-- t r b are x y z, each times one number that is not 0, z is above 0 and no number above 1 divides x, y, z -/
structure Low (t r b x y z : Int) : Prop where
  s : ∃ s : Int, s ≠ 0 ∧ t = x * s ∧ r = y * s ∧ b = z * s
  pos : 0 < z
  one : (x.natAbs.gcd y.natAbs).gcd z.natAbs = 1
theorem low_is {t r b : Int} (h : b ≠ 0) : Low t r b (lowT t r b) (lowR t r b) (lowB t r b) := by
  have hs := sg_ne (t := t) (r := r) h
  obtain ⟨d1, d2, d3⟩ := sg_dvd t r b
  have e1 := fdiv_exact hs d1
  have e2 := fdiv_exact hs d2
  have e3 := fdiv_exact hs d3
  refine ⟨⟨_, hs, e1.symm, e2.symm, e3.symm⟩, ?_, ?_⟩
  · have hz : lowB t r b * sg t r b = b := e3
    have hsg : (b < 0 → sg t r b < 0) ∧ (¬ b < 0 → 0 < sg t r b) := by
      have : 0 < (t.natAbs.gcd r.natAbs).gcd b.natAbs := Nat.gcd_pos_of_pos_right _ (Int.natAbs_pos.mpr h)
      unfold sg
      constructor <;> intro hb <;> simp only [hb, if_true, if_false] <;> omega
    rcases Int.lt_trichotomy (lowB t r b) 0 with z | z | z
    · exfalso
      by_cases hb : b < 0
      · have := Int.mul_pos_of_neg_of_neg z (hsg.1 hb); omega
      · have := Int.mul_neg_of_neg_of_pos z (hsg.2 hb); omega
    · rw [z] at hz; omega
    · exact z
  · have hg : 0 < (t.natAbs.gcd r.natAbs).gcd b.natAbs := Nat.gcd_pos_of_pos_right _ (Int.natAbs_pos.mpr h)
    have hn : (sg t r b).natAbs = (t.natAbs.gcd r.natAbs).gcd b.natAbs := by unfold sg; split <;> omega
    have f1 : t.natAbs = (lowT t r b).natAbs * (sg t r b).natAbs := by rw [← Int.natAbs_mul]; exact congrArg _ e1.symm
    have f2 : r.natAbs = (lowR t r b).natAbs * (sg t r b).natAbs := by rw [← Int.natAbs_mul]; exact congrArg _ e2.symm
    have f3 : b.natAbs = (lowB t r b).natAbs * (sg t r b).natAbs := by rw [← Int.natAbs_mul]; exact congrArg _ e3.symm
    have : (((lowT t r b).natAbs.gcd (lowR t r b).natAbs).gcd (lowB t r b).natAbs) * (sg t r b).natAbs = 1 * (sg t r b).natAbs := by
      rw [← Nat.gcd_mul_right, ← Nat.gcd_mul_right, ← f1, ← f2, ← f3, Nat.one_mul, hn]
    exact Nat.eq_of_mul_eq_mul_right (by rw [hn]; exact hg) this
/-- lowest terms are told by the number alone -/
theorem Low.uniq {t r b x y z x' y' z' : Int} (h : Low t r b x y z) (h' : Low t r b x' y' z') : x = x' ∧ y = y' ∧ z = z' := by
  obtain ⟨⟨s, hs, a1, a2, a3⟩, p, o⟩ := h
  obtain ⟨⟨s', hs', b1, b2, b3⟩, p', o'⟩ := h'
  have k : ∀ {x y z s x' y' z' s' : Int}, x * s = x' * s' → y * s = y' * s' → z * s = z' * s' → ((x.natAbs.gcd y.natAbs).gcd z.natAbs) * s.natAbs = ((x'.natAbs.gcd y'.natAbs).gcd z'.natAbs) * s'.natAbs := fun {x y z s x' y' z' s'} h1 h2 h3 => by
    rw [← Nat.gcd_mul_right, ← Nat.gcd_mul_right, ← Nat.gcd_mul_right, ← Nat.gcd_mul_right, ← Int.natAbs_mul, ← Int.natAbs_mul, ← Int.natAbs_mul, ← Int.natAbs_mul, ← Int.natAbs_mul, ← Int.natAbs_mul, h1, h2, h3]
  have e := k (a1.symm.trans b1) (a2.symm.trans b2) (a3.symm.trans b3)
  rw [o, o', Nat.one_mul, Nat.one_mul] at e
  have ez : z * s = z' * s' := a3.symm.trans b3
  have es : s = s' := by
    rcases Int.natAbs_eq_natAbs_iff.mp e with q | q
    · exact q
    · exfalso
      rw [q, Int.mul_neg] at ez
      have : (z + z') * s' = 0 := by rw [Int.add_mul, ← ez]; omega
      rcases Int.mul_eq_zero.mp this with w | w
      · omega
      · exact hs' w
  subst es
  exact ⟨Int.eq_of_mul_eq_mul_right hs (a1.symm.trans b1), Int.eq_of_mul_eq_mul_right hs (a2.symm.trans b2), Int.eq_of_mul_eq_mul_right hs ez⟩
theorem Low.eqs {t r b x y z : Int} (h : Low t r b x y z) (hb : b ≠ 0) : x = lowT t r b ∧ y = lowR t r b ∧ z = lowB t r b := h.uniq (low_is hb)
theorem Low.zle {t r b x y z : Int} (h : Low t r b x y z) : z.natAbs ≤ b.natAbs := by
  obtain ⟨⟨s, hs, _, _, e⟩, _, _⟩ := h
  rw [e, Int.natAbs_mul]
  exact Nat.le_mul_of_pos_right _ (Int.natAbs_pos.mpr hs)
theorem Low.self {t r b x y z : Int} (h : Low t r b x y z) : Low x y z x y z := ⟨⟨1, by decide, by simp, by simp, by simp⟩, h.pos, h.one⟩
theorem Low.scale {t r b x y z : Int} (h : Low t r b x y z) {f : Int} (hf : f ≠ 0) : Low (t * f) (r * f) (b * f) x y z := by
  obtain ⟨⟨s, hs, a1, a2, a3⟩, p, o⟩ := h
  exact ⟨⟨s * f, Int.mul_ne_zero hs hf, by rw [a1, Int.mul_assoc], by rw [a2, Int.mul_assoc], by rw [a3, Int.mul_assoc]⟩, p, o⟩
theorem Low.turned {t r b x y z : Int} (h : Low t r b x y z) : Low t (-r) b x (-y) z := by
  obtain ⟨⟨s, hs, a1, a2, a3⟩, p, o⟩ := h
  exact ⟨⟨s, hs, a1, by rw [a2, Int.neg_mul], a3⟩, p, by rw [Int.natAbs_neg]; exact o⟩
theorem Low.neg {t r b x y z : Int} (h : Low t r b x y z) : Low (-t) (-r) b (-x) (-y) z := by
  obtain ⟨⟨s, hs, a1, a2, a3⟩, p, o⟩ := h
  exact ⟨⟨s, hs, by rw [a1, Int.neg_mul], by rw [a2, Int.neg_mul], a3⟩, p, by rw [Int.natAbs_neg, Int.natAbs_neg]; exact o⟩
theorem Low.far {t r b x y z x' y' z' : Int} (h : Low t r b x y z) (h' : Low (t + b) r b x' y' z') (hb : b ≠ 0) : ¬ (x' = x ∧ y' = y ∧ z' = z) := by
  rintro ⟨rfl, rfl, rfl⟩
  obtain ⟨⟨s, hs, a1, a2, a3⟩, p, o⟩ := h
  obtain ⟨⟨s', hs', b1, b2, b3⟩, _, _⟩ := h'
  have : s = s' := Int.eq_of_mul_eq_mul_left (by omega) (a3.symm.trans b3)
  subst this
  rw [← a1] at b1
  omega
theorem Low.aside {t r b x y z x' y' z' : Int} (h : Low t r b x y z) (h' : Low t (r + 1) b x' y' z') : ¬ (x' = x ∧ y' = y ∧ z' = z) := by
  rintro ⟨rfl, rfl, rfl⟩
  obtain ⟨⟨s, hs, a1, a2, a3⟩, p, o⟩ := h
  obtain ⟨⟨s', hs', b1, b2, b3⟩, _, _⟩ := h'
  have : s = s' := Int.eq_of_mul_eq_mul_left (by omega) (a3.symm.trans b3)
  subst this
  rw [← a2] at b2
  omega
theorem Low.whole {t r b x y z : Int} (h : Low t r b x y z) (w : Int) : (y = 0 ∧ z = 1 ∧ x = w) ↔ (r = 0 ∧ t = w * b) := by
  obtain ⟨⟨s, hs, a1, a2, a3⟩, p, o⟩ := h
  constructor
  · rintro ⟨rfl, rfl, rfl⟩
    rw [Int.one_mul] at a3
    rw [a3]
    exact ⟨by rw [a2, Int.zero_mul], a1⟩
  · rintro ⟨hr, ht⟩
    have hy : y = 0 := by
      rcases Int.mul_eq_zero.mp (a2.symm.trans hr) with q | q
      · exact q
      · exact absurd q hs
    have hx : x = w * z := by
      rw [a1, a3, ← Int.mul_assoc] at ht
      exact Int.eq_of_mul_eq_mul_right hs ht
    subst hy
    rw [hx, Int.natAbs_zero, Nat.gcd_zero_right, Int.natAbs_mul, Nat.gcd_mul_left_left] at o
    have : z = 1 := by omega
    subst this
    exact ⟨rfl, rfl, by rw [hx, Int.mul_one]⟩
theorem eqRt_root {H : Hp} {t r b t' r' b' : Int} {v : V} {c : Addr} (h : RootAt c H v t' r' b') : eqRt H t r b v = decide (t' = t ∧ r' = r ∧ b' = b) := by
  obtain ⟨a, dx, rfl, e⟩ := h
  unfold eqRt
  simp only [e, rf_eq]
theorem RootAt.th {c : Addr} {H : Hp} {v : V} {t r b : Int} (h : RootAt c H v t r b) : Th c H v := by
  obtain ⟨a, dx, rfl, e⟩ := h
  exact .root a dx t r b e
theorem RootAt.sx {c st sc : Addr} {H H' : Hp} {v : V} {t r b : Int} (h : RootAt c H v t r b) (hs : StA H st sc) (s : SameX st H H') : RootAt c H' v t r b := by
  obtain ⟨a, dx, rfl, e⟩ := h
  exact ⟨a, dx, rfl, s _ _ (hs.ne e (by intro xs z; cases z)) e⟩
theorem k_eqC {mg : Str → Option Value} (T : Txt Z mg) {H : Hp} {Q : VK} {E : XK} {x y : V} {t r b : Int} (hx : RootAt Z.c_Root H x t r b) (hy : Th Z.c_Root H y) (q : Q (.bl (eqRt H t r b y)) H) : rOwnC Z.K Z.c_Root (sp_Root_eq Z) E x y H Q := by
  obtain ⟨a, dx, rfl, e⟩ := hx
  obtain ⟨ty, hty, _, _, _, nf⟩ := hy.ty T.ki
  exact ⟨a, dx, _, ty, rfl, e, hty, nf, _, _, t, r, b, rfl, ⟨a, dx, rfl, e⟩, hy, q⟩
theorem k_eqR {mg : Str → Option Value} (T : Txt Z mg) {H : Hp} {Q : VK} {E : XK} {x y : V} {t r b : Int} (hy : RootAt Z.c_Root H y t r b) (hx : (∃ i, x = .int i) ∨ ∃ b, x = .bl b) (q : Q (.bl (eqRt H t r b x)) H) : rOwnR Z.K Z.c_Root (sp_Root_eq Z) E x y H Q := by
  obtain ⟨a, dx, rfl, e⟩ := hy
  rcases hx with ⟨i, rfl⟩ | ⟨c, rfl⟩
  · exact ⟨a, dx, _, rfl, e, .inl ⟨⟨i, rfl⟩, T.ki.s1⟩, _, _, t, r, b, rfl, ⟨a, dx, rfl, e⟩, .int i, q⟩
  · exact ⟨a, dx, _, rfl, e, .inr ⟨⟨c, rfl⟩, T.ki.s2⟩, _, _, t, r, b, rfl, ⟨a, dx, rfl, e⟩, .bl c, q⟩
/-- a number, as a Root or as an int -/
def NumAt (c : Addr) (H : Hp) (v : V) (t r b : Int) : Prop := RootAt c H v t r b ∨ ∃ i, v = .int i ∧ t = i ∧ r = 0 ∧ b = 1
/-- its parts are not too great, the bottom is not 0 -/
structure Sm (t r b : Int) : Prop where
  ht : Bw 1000 t
  hr : Bw 1000 r
  hb : Bw 1000 b
  lw : Low t r b t r b
theorem Sm.hn {t r b : Int} (h : Sm t r b) : b ≠ 0 := by have := h.lw.pos; omega
theorem bw_div {n : Nat} {x y s : Int} (h : Bw n x) (e : x = y * s) (hs : s ≠ 0) : Bw n y := by
  unfold Bw at *
  rw [e, Int.natAbs_mul] at h
  exact Nat.lt_of_le_of_lt (Nat.le_mul_of_pos_right _ (Int.natAbs_pos.mpr hs)) h
theorem Sm.low {t r b : Int} (hb : b ≠ 0) (bt : Bw 1000 t) (br : Bw 1000 r) (bb : Bw 1000 b) : Sm (lowT t r b) (lowR t r b) (lowB t r b) := by
  have l := low_is (t := t) (r := r) hb
  obtain ⟨s, hs, e1, e2, e3⟩ := l.s
  exact ⟨bw_div bt e1 hs, bw_div br e2 hs, bw_div bb e3 hs, l.self⟩
theorem low_congr {t r b t' r' b' s : Int} (hb : b' ≠ 0) (hs : s ≠ 0) (e1 : t = t' * s) (e2 : r = r' * s) (e3 : b = b' * s) : lowT t r b = lowT t' r' b' ∧ lowR t r b = lowR t' r' b' ∧ lowB t r b = lowB t' r' b' := by
  have l := (low_is (t := t') (r := r') hb).scale hs
  rw [← e1, ← e2, ← e3] at l
  obtain ⟨a, b, c⟩ := l.eqs (by rw [e3]; exact Int.mul_ne_zero hb hs)
  exact ⟨a.symm, b.symm, c.symm⟩
/-- a Root that is (t + r * root) / b in lowest terms -/
def LowAt (c : Addr) (H : Hp) (v : V) (t r b : Int) : Prop := RootAt c H v (lowT t r b) (lowR t r b) (lowB t r b)
theorem LowAt.congr {c : Addr} {H : Hp} {v : V} {t r b t' r' b' s : Int} (h : LowAt c H v t r b) (hb : b' ≠ 0) (hs : s ≠ 0) (e1 : t = t' * s) (e2 : r = r' * s) (e3 : b = b' * s) : LowAt c H v t' r' b' := by
  obtain ⟨a, b, c⟩ := low_congr hb hs e1 e2 e3
  unfold LowAt at *
  rw [← a, ← b, ← c]
  exact h
theorem LowAt.congr' {c : Addr} {H : Hp} {v : V} {t r b t' r' b' s : Int} (h : LowAt c H v t r b) (hb : b ≠ 0) (hs : s ≠ 0) (e1 : t' = t * s) (e2 : r' = r * s) (e3 : b' = b * s) : LowAt c H v t' r' b' := by
  obtain ⟨a, b, c⟩ := low_congr hb hs e1 e2 e3
  unfold LowAt at *
  rw [a, b, c]
  exact h
def spBin (c : Addr) (F : F3) : Sp := fun vs H Q _ => ∃ v o t r b t' r' b', vs = [v, o] ∧ RootAt c H v t r b ∧ Sm t r b ∧ NumAt c H o t' r' b' ∧ Sm t' r' b' ∧
  ∀ v' H', Same H H' → LowAt c H' v' (F.t t r b t' r' b') (F.r t r b t' r' b') (F.b t r b t' r' b') → Q v' H'
def isN (c : Addr) (H : Hp) (v : V) : Bool := isC c H v || isI v
theorem RootAt.isC {c : Addr} {H : Hp} {v : V} {t r b : Int} (h : RootAt c H v t r b) : isC c H v = true := by
  obtain ⟨a, dx, rfl, e⟩ := h
  show (match H a with | some (.ins C _ _) => decide (C = c) | _ => false) = true
  rw [e]
  exact decide_eq_true rfl
theorem NumAt.th {c : Addr} {H : Hp} {v : V} {t r b : Int} (h : NumAt c H v t r b) : Th c H v := by
  rcases h with ⟨a, dx, rfl, e⟩ | ⟨i, rfl, _⟩
  · exact .root a dx t r b e
  · exact .int i
theorem NumAt.isN {c : Addr} {H : Hp} {v : V} {t r b : Int} (h : NumAt c H v t r b) : isN c H v = true := by
  unfold L2.My.isN
  rcases h with h | ⟨i, rfl, _⟩
  · rw [h.isC]; rfl
  · rfl
theorem NumAt.same {c : Addr} {H H' : Hp} {v : V} {t r b : Int} (h : NumAt c H v t r b) (s : Same H H') : NumAt c H' v t r b := h.imp (·.same s) id
theorem low1 (i : Int) : lowT i 0 1 = i ∧ lowR i 0 1 = 0 ∧ lowB i 0 1 = 1 := by
  have e : sg i 0 1 = 1 := by unfold sg; rw [if_neg (by decide)]; simp
  unfold lowT lowR lowB
  rw [e]
  exact ⟨Int.fdiv_one i, by decide, by decide⟩
abbrev s_is_number : Stmt := top 14
theorem sc_is_number : FnScope ["thing"] ["thing"] (defScope s_is_number) := ⟨rfl, rfl, rfl, by decide +kernel, rfl, by decide +kernel, by decide +kernel⟩

def sp_is_number (Z : Zs) : Sp := fun vs H Q E =>
  ∃ v, vs = [v] ∧ Th Z.c_Root H v ∧ Q (.bl (isN Z.c_Root H v)) H
theorem ok_is_number (T : Txt Z mg) (h_is_integral : Has P w Z.K mg base "is_integral" 1 ["thing"] (sp_is_integral Z)) (D : AtF Z.K mg "is_number" "is_number" s_is_number ["thing"]) : Has P w Z.K mg base "is_number" 2 ["thing"] (sp_is_number Z) := by
  refine D.ok sc_is_number (fun vs H Q E h => ?_) (fun cdv A outer s H vs Q E hr h => ?_)
  · obtain ⟨v, rfl, _⟩ := h
    rfl
  · refine ⟨_, (pss_one (ps_ret (pe_or (pe_callB call_isi rfl T.n_isinstance (by decide +kernel) (pa_cons (pv 0) (pa_cons (pe_glob (v := .ref Z.c_Root) rfl T.g_Root rfl) pa_nil))) (pe_one (pe_h (E := ED E) h_is_integral hr (paW (takes_of rfl rfl rfl rfl)) (pa_cons (pv 0) pa_nil)))))), ?_⟩
    try simp only [cxOf]
    obtain ⟨v, rfl, hv, q⟩ := h
    obtain ⟨ty, hty, _, _, k3, _⟩ := hv.ty T.ki
    unfold isN at q
    walk_at "W"
    refine w_isiC hty k3 ?_
    walk_at "W"
    cases e : isC Z.c_Root H v
    · rw [e] at q
      walk_at "W"
      refine ⟨v, rfl, hv, ?_⟩
      walk_at "W"
      exact q
    · rw [e] at q
      walk_at "W"
      exact q
abbrev s_as_root : Stmt := top 15
theorem sc_as_root : FnScope ["number"] ["number"] (defScope s_as_root) := ⟨rfl, rfl, rfl, by decide +kernel, rfl, by decide +kernel, by decide +kernel⟩

def sp_as_root (Z : Zs) : Sp := fun vs H Q E =>
  ∃ v t r b, vs = [v] ∧ NumAt Z.c_Root H v t r b ∧ ∀ v' H', Same H H' → RootAt Z.c_Root H' v' t r b → Q v' H'
theorem ok_as_root (T : Txt Z mg) (h_Root : HasC P w Z.K mg base "Root" Z.c_Root 3 ["self", "top", "root", "bottom"] (sp_Root_init Z)) (D : AtF Z.K mg "as_root" "as_root" s_as_root ["number"]) : Has P w Z.K mg base "as_root" 5 ["number"] (sp_as_root Z) := by
  refine D.ok sc_as_root (fun vs H Q E h => ?_) (fun cdv A outer s H vs Q E hr h => ?_)
  · obtain ⟨v, t, r, b, rfl, _⟩ := h
    rfl
  · refine ⟨_, (pss_cons (ps_if (pt_val (pe_callB call_isi rfl T.n_isinstance (by decide +kernel) (pa_cons (pv 0) (pa_cons (pe_glob (v := .ref Z.c_Root) rfl T.g_Root rfl) pa_nil)))) (pss_one (ps_ret (pv 0))) pss_nil)
      (pss_one (ps_ret (pe_hc (E := ED E) h_Root hr (paW (takes_of rfl rfl rfl rfl)) (pa_cons (pv 0) (pa_cons pe_int (pa_cons pe_int pa_nil))))))), ?_⟩
    try simp only [cxOf]
    obtain ⟨v, t, r, b, rfl, hv, q⟩ := h
    obtain ⟨ty, hty, _, _, k3, _⟩ := hv.th.ty T.ki
    walk_at "W"
    refine w_isiC hty k3 ?_
    rcases hv with hv | ⟨i, rfl, rfl, rfl, rfl⟩
    · rw [hv.isC]
      walk_at "W"
      exact q _ _ (Same.refl _) hv
    · have e : isC Z.c_Root H (.int t) = false := rfl
      rw [e]
      walk_at "W"
      refine k_mkRootI (by decide) (Bw.one.bd (by decide)) fun v' H' s hv' => ?_
      obtain ⟨e1, e2, e3⟩ := low1 t
      rw [e1, e2, e3] at hv'
      exact q _ _ s hv'
/-- the sign of t + r * the square root of 2 -/
def sgn (t r : Int) : Int :=
  if t = 0 ∧ r = 0 then 0 else if 0 ≤ t ∧ 0 ≤ r then 1 else if t ≤ 0 ∧ r ≤ 0 then -1 else if t * t > 2 * r * r then (if 0 < t then 1 else -1) else if 0 < r then 1 else -1
abbrev s_surd_sign : Stmt := top 16
theorem sc_surd_sign : FnScope ["top", "root"] ["top", "root"] (defScope s_surd_sign) := ⟨rfl, rfl, rfl, by decide +kernel, rfl, by decide +kernel, by decide +kernel⟩

def sp_surd_sign (Z : Zs) : Sp := fun vs H Q E =>
  ∃ t r : Int, vs = [.int t, .int r] ∧ Bw 3000 t ∧ Bw 3000 r ∧ Q (.int (sgn t r)) H
theorem ok_surd_sign (T : Txt Z mg)  (D : AtF Z.K mg "surd_sign" "surd_sign" s_surd_sign ["top", "root"]) : Has P w Z.K mg base "surd_sign" 1 ["top", "root"] (sp_surd_sign Z) := by
  refine D.ok sc_surd_sign (fun vs H Q E h => ?_) (fun cdv A outer s H vs Q E hr h => ?_)
  · obtain ⟨t, r, rfl, _⟩ := h
    rfl
  · refine ⟨_, (C8.pss_cut (ps_if (PW.pt (pw_and (pt_cmpR op_ge (pv 0) pe_int (nomark _)) (pw_and1 (pt_cmpR op_ge (pv 1) pe_int (nomark _))))) (pss_one (ps_ret (pe_ifExp (PW.pt (pw_or (pt_cmpR op_gt (pv 0) pe_int (nomark _)) (pw_or1 (pt_cmpR op_gt (pv 1) pe_int (nomark _))))) pe_int pe_int))) pss_nil)
      (C8.pss_cut (ps_if (PW.pt (pw_and (pt_cmpR op_le (pv 0) pe_int (nomark _)) (pw_and1 (pt_cmpR op_le (pv 1) pe_int (nomark _))))) (pss_one (ps_ret (pe_un un_neg pe_int))) pss_nil)
      (pss_cons (ps_if (pt_cmpR op_gt (pe_op op_mulS (pv 0) (pv 0)) (pe_op op_mulS (pe_op op_mulS pe_int (pv 1)) (pv 1)) (nomark _)) (pss_one (ps_ret (pe_ifExp (pt_cmpR op_gt (pv 0) pe_int (nomark _)) pe_int (pe_un un_neg pe_int)))) pss_nil)
      (pss_one (ps_ret (pe_ifExp (pt_cmpR op_gt (pv 1) pe_int (nomark _)) pe_int (pe_un un_neg pe_int))))))), ?_⟩
    try simp only [cxOf]
    obtain ⟨t, r, rfl, bt, br, q⟩ := h
    have L : ∀ {k : Int}, sgn t r = k → Q (.int k) H := fun e => e ▸ q
    have big : ¬ (t = 0 ∧ r = 0) → ¬ (0 ≤ t ∧ 0 ≤ r) → ¬ (t ≤ 0 ∧ r ≤ 0) → ∀ {k : Int}, (if t * t > 2 * r * r then (if 0 < t then 1 else -1) else if 0 < r then 1 else -1) = k → Q (.int k) H := fun n1 n2 n3 k e => L (by unfold sgn; rw [if_neg n1, if_neg n2, if_neg n3]; exact e)
    walk_at "W"
    refine w_cut (fun σ' H' => (σ' = [some (.int t), some (.int r)] ∧ H' = H) ∧ ¬ (0 ≤ t ∧ 0 ≤ r)) ?_ ?_
    · walk_at "W"
      refine w_ite (fun h1 => ?_) (fun h1 => ?_)
      · walk_at "W"
        refine w_ite (fun h2 => ?_) (fun h2 => ?_)
        · walk_at "W"
          refine w_ite (fun h3 => ?_) (fun h3 => ?_)
          · walk_at "W"
            exact L (by unfold sgn; rw [if_neg (by omega), if_pos (by omega)])
          · walk_at "W"
            refine w_ite (fun h4 => ?_) (fun h4 => ?_)
            · walk_at "W"
              exact L (by unfold sgn; rw [if_neg (by omega), if_pos (by omega)])
            · walk_at "W"
              exact L (by unfold sgn; rw [if_pos (by omega)])
        · walk_at "W"
          exact ⟨⟨rfl, rfl⟩, by omega⟩
      · walk_at "W"
        exact ⟨⟨rfl, rfl⟩, by omega⟩
    rintro σ' H' ⟨⟨rfl, rfl⟩, n2⟩
    walk_at "W"
    refine w_cut (fun σ' H1 => (σ' = [some (.int t), some (.int r)] ∧ H1 = H') ∧ ¬ (t ≤ 0 ∧ r ≤ 0)) ?_ ?_
    · walk_at "W"
      refine w_ite (fun h1 => ?_) (fun h1 => ?_)
      · walk_at "W"
        refine w_ite (fun h2 => ?_) (fun h2 => ?_)
        · walk_at "W"
          exact L (by unfold sgn; rw [if_neg (by omega), if_neg (by omega), if_pos (by omega)])
        · walk_at "W"
          exact ⟨⟨rfl, rfl⟩, by omega⟩
      · walk_at "W"
        exact ⟨⟨rfl, rfl⟩, by omega⟩
    rintro σ' H1 ⟨⟨rfl, rfl⟩, n3⟩
    walk_at "W"
    walk_at "mul"
    walk_at "W"
    walk_at "mul"
    walk_at "W"
    have go : ∀ {k : Int}, (if t * t > 2 * r * r then (if 0 < t then 1 else -1) else if 0 < r then 1 else -1) = k → Q (.int k) H1 := fun e => big (by omega) n2 n3 e
    refine w_ite (fun h1 => ?_) (fun h1 => ?_)
    · walk_at "W"
      refine w_ite (fun h2 => ?_) (fun h2 => ?_)
      · walk_at "W"
        exact go (by rw [if_pos h1, if_pos h2])
      · walk_at "W"
        exact go (by rw [if_pos h1, if_neg h2])
    · walk_at "W"
      refine w_ite (fun h2 => ?_) (fun h2 => ?_)
      · walk_at "W"
        exact go (by rw [if_neg h1, if_pos h2])
      · walk_at "W"
        exact go (by rw [if_neg h1, if_neg h2])
abbrev s_Root_add : Stmt := inClass (top 18) 2
theorem sc_Root_add : FnScope ["self", "other", "more", "top", "root"] ["self", "other"] (defScope s_Root_add) := ⟨rfl, rfl, rfl, by decide +kernel, rfl, by decide +kernel, by decide +kernel⟩

def sp_Root_add (Z : Zs) : Sp := fun vs H Q E =>
  spBin Z.c_Root plus vs H Q E
theorem ok_Root_add (T : Txt Z mg) (h_Root : HasC P w Z.K mg base "Root" Z.c_Root 3 ["self", "top", "root", "bottom"] (sp_Root_init Z)) (h_as_root : Has P w Z.K mg base "as_root" 5 ["number"] (sp_as_root Z)) (h_is_number : Has P w Z.K mg base "is_number" 2 ["thing"] (sp_is_number Z)) (D : AtM Z.K Z.c_Root "__add__" "Root.__add__" s_Root_add ["self", "other"]) : HasM P w Z.K mg base Z.c_Root "__add__" 6 ["self", "other"] (sp_Root_add Z) := by
  refine D.ok sc_Root_add (fun vs H Q E h => ?_) (fun cdv A outer s H vs Q E hr h => ?_)
  · obtain ⟨v, o, t, r, b, t', r', b', rfl, _⟩ := h
    rfl
  · refine ⟨_, (pss_cons (ps_if (pt_not (pt_val (pe_h (E := ED E) h_is_number hr (paW (takes_of rfl rfl rfl rfl)) (pa_cons (pv 1) pa_nil)))) (pss_one ps_never) pss_nil)
      (pss_cons (ps_set (i := 2) sc_Root_add.nd rfl (Or.inl rfl) (pe_h (E := ED E) h_as_root hr (paW (takes_of rfl rfl rfl rfl)) (pa_cons (pv 1) pa_nil)))
      (pss_cons (ps_set (i := 3) sc_Root_add.nd rfl (Or.inl rfl) (pe_op op_add (pe_op op_mulS (pe_fld (pv 0) rfl) (pe_fld (pv 2) rfl)) (pe_op op_mulS (pe_fld (pv 2) rfl) (pe_fld (pv 0) rfl))))
      (pss_cons (ps_set (i := 4) sc_Root_add.nd rfl (Or.inl rfl) (pe_op op_add (pe_op op_mulS (pe_fld (pv 0) rfl) (pe_fld (pv 2) rfl)) (pe_op op_mulS (pe_fld (pv 2) rfl) (pe_fld (pv 0) rfl))))
      (pss_one (ps_ret (pe_hc (E := ED E) h_Root hr (paW (takes_of rfl rfl rfl rfl)) (pa_cons (pv 3) (pa_cons (pv 4) (pa_cons (pe_op op_mulS (pe_fld (pv 0) rfl) (pe_fld (pv 2) rfl)) pa_nil)))))))))), ?_⟩
    try simp only [cxOf]
    obtain ⟨v, o, t, r, b, t', r', b', rfl, ⟨a, dx, rfl, ha⟩, ⟨bt, br, bb, lw⟩, ho, ⟨bt', br', bb', lw'⟩, q⟩ := h
    have p := lw.pos
    have p' := lw'.pos
    walk_at "W"
    refine ⟨o, rfl, ho.th, ?_⟩
    rw [ho.isN]
    walk_at "W"
    refine ⟨o, t', r', b', rfl, ho, ?_⟩
    rintro m H1 s1 ⟨a', dx', rfl, ha'⟩
    have ha1 := s1 _ _ ha
    repeat (first | walk_at "s" | walk_at "mul" | refine w_fld ha1 T.c_Root T.nf_top (rf_top _ _ _) ?_ | refine w_fld ha1 T.c_Root T.nf_root (rf_root _ _ _) ?_ | refine w_fld ha1 T.c_Root T.nf_bottom (rf_bottom _ _ _) ?_ | refine w_fld ha' T.c_Root T.nf_top (rf_top _ _ _) ?_ | refine w_fld ha' T.c_Root T.nf_root (rf_root _ _ _) ?_ | refine w_fld ha' T.c_Root T.nf_bottom (rf_bottom _ _ _) ?_)
    exact k_mkRootI (Int.mul_ne_zero (by omega) (by omega)) ((bb.mul bb').bd (by decide)) fun v' H' s' hv => q v' H' (s1.trans s') hv
abbrev s_Root_sub : Stmt := inClass (top 18) 4
theorem sc_Root_sub : FnScope ["self", "other", "less", "top", "root"] ["self", "other"] (defScope s_Root_sub) := ⟨rfl, rfl, rfl, by decide +kernel, rfl, by decide +kernel, by decide +kernel⟩

def sp_Root_sub (Z : Zs) : Sp := fun vs H Q E =>
  spBin Z.c_Root minus vs H Q E
theorem ok_Root_sub (T : Txt Z mg) (h_Root : HasC P w Z.K mg base "Root" Z.c_Root 3 ["self", "top", "root", "bottom"] (sp_Root_init Z)) (h_as_root : Has P w Z.K mg base "as_root" 5 ["number"] (sp_as_root Z)) (h_is_number : Has P w Z.K mg base "is_number" 2 ["thing"] (sp_is_number Z)) (D : AtM Z.K Z.c_Root "__sub__" "Root.__sub__" s_Root_sub ["self", "other"]) : HasM P w Z.K mg base Z.c_Root "__sub__" 6 ["self", "other"] (sp_Root_sub Z) := by
  refine D.ok sc_Root_sub (fun vs H Q E h => ?_) (fun cdv A outer s H vs Q E hr h => ?_)
  · obtain ⟨v, o, t, r, b, t', r', b', rfl, _⟩ := h
    rfl
  · refine ⟨_, (pss_cons (ps_if (pt_not (pt_val (pe_h (E := ED E) h_is_number hr (paW (takes_of rfl rfl rfl rfl)) (pa_cons (pv 1) pa_nil)))) (pss_one ps_never) pss_nil)
      (pss_cons (ps_set (i := 2) sc_Root_sub.nd rfl (Or.inl rfl) (pe_h (E := ED E) h_as_root hr (paW (takes_of rfl rfl rfl rfl)) (pa_cons (pv 1) pa_nil)))
      (pss_cons (ps_set (i := 3) sc_Root_sub.nd rfl (Or.inl rfl) (pe_op op_sub (pe_op op_mulS (pe_fld (pv 0) rfl) (pe_fld (pv 2) rfl)) (pe_op op_mulS (pe_fld (pv 2) rfl) (pe_fld (pv 0) rfl))))
      (pss_cons (ps_set (i := 4) sc_Root_sub.nd rfl (Or.inl rfl) (pe_op op_sub (pe_op op_mulS (pe_fld (pv 0) rfl) (pe_fld (pv 2) rfl)) (pe_op op_mulS (pe_fld (pv 2) rfl) (pe_fld (pv 0) rfl))))
      (pss_one (ps_ret (pe_hc (E := ED E) h_Root hr (paW (takes_of rfl rfl rfl rfl)) (pa_cons (pv 3) (pa_cons (pv 4) (pa_cons (pe_op op_mulS (pe_fld (pv 0) rfl) (pe_fld (pv 2) rfl)) pa_nil)))))))))), ?_⟩
    try simp only [cxOf]
    obtain ⟨v, o, t, r, b, t', r', b', rfl, ⟨a, dx, rfl, ha⟩, ⟨bt, br, bb, lw⟩, ho, ⟨bt', br', bb', lw'⟩, q⟩ := h
    have p := lw.pos
    have p' := lw'.pos
    walk_at "W"
    refine ⟨o, rfl, ho.th, ?_⟩
    rw [ho.isN]
    walk_at "W"
    refine ⟨o, t', r', b', rfl, ho, ?_⟩
    rintro m H1 s1 ⟨a', dx', rfl, ha'⟩
    have ha1 := s1 _ _ ha
    repeat (first | walk_at "s" | walk_at "mul" | refine w_fld ha1 T.c_Root T.nf_top (rf_top _ _ _) ?_ | refine w_fld ha1 T.c_Root T.nf_root (rf_root _ _ _) ?_ | refine w_fld ha1 T.c_Root T.nf_bottom (rf_bottom _ _ _) ?_ | refine w_fld ha' T.c_Root T.nf_top (rf_top _ _ _) ?_ | refine w_fld ha' T.c_Root T.nf_root (rf_root _ _ _) ?_ | refine w_fld ha' T.c_Root T.nf_bottom (rf_bottom _ _ _) ?_)
    exact k_mkRootI (Int.mul_ne_zero (by omega) (by omega)) ((bb.mul bb').bd (by decide)) fun v' H' s' hv => q v' H' (s1.trans s') hv
abbrev s_Root_mul : Stmt := inClass (top 18) 6
theorem sc_Root_mul : FnScope ["self", "other", "by", "top", "root"] ["self", "other"] (defScope s_Root_mul) := ⟨rfl, rfl, rfl, by decide +kernel, rfl, by decide +kernel, by decide +kernel⟩

def sp_Root_mul (Z : Zs) : Sp := fun vs H Q E =>
  spBin Z.c_Root times vs H Q E
theorem ok_Root_mul (T : Txt Z mg) (h_Root : HasC P w Z.K mg base "Root" Z.c_Root 3 ["self", "top", "root", "bottom"] (sp_Root_init Z)) (h_as_root : Has P w Z.K mg base "as_root" 5 ["number"] (sp_as_root Z)) (h_is_number : Has P w Z.K mg base "is_number" 2 ["thing"] (sp_is_number Z)) (D : AtM Z.K Z.c_Root "__mul__" "Root.__mul__" s_Root_mul ["self", "other"]) : HasM P w Z.K mg base Z.c_Root "__mul__" 6 ["self", "other"] (sp_Root_mul Z) := by
  refine D.ok sc_Root_mul (fun vs H Q E h => ?_) (fun cdv A outer s H vs Q E hr h => ?_)
  · obtain ⟨v, o, t, r, b, t', r', b', rfl, _⟩ := h
    rfl
  · refine ⟨_, (pss_cons (ps_if (pt_not (pt_val (pe_h (E := ED E) h_is_number hr (paW (takes_of rfl rfl rfl rfl)) (pa_cons (pv 1) pa_nil)))) (pss_one ps_never) pss_nil)
      (pss_cons (ps_set (i := 2) sc_Root_mul.nd rfl (Or.inl rfl) (pe_h (E := ED E) h_as_root hr (paW (takes_of rfl rfl rfl rfl)) (pa_cons (pv 1) pa_nil)))
      (pss_cons (ps_set (i := 3) sc_Root_mul.nd rfl (Or.inl rfl) (pe_op op_add (pe_op op_mulS (pe_fld (pv 0) rfl) (pe_fld (pv 2) rfl)) (pe_op op_mulS (pe_op op_mulS pe_int (pe_fld (pv 0) rfl)) (pe_fld (pv 2) rfl))))
      (pss_cons (ps_set (i := 4) sc_Root_mul.nd rfl (Or.inl rfl) (pe_op op_add (pe_op op_mulS (pe_fld (pv 0) rfl) (pe_fld (pv 2) rfl)) (pe_op op_mulS (pe_fld (pv 0) rfl) (pe_fld (pv 2) rfl))))
      (pss_one (ps_ret (pe_hc (E := ED E) h_Root hr (paW (takes_of rfl rfl rfl rfl)) (pa_cons (pv 3) (pa_cons (pv 4) (pa_cons (pe_op op_mulS (pe_fld (pv 0) rfl) (pe_fld (pv 2) rfl)) pa_nil)))))))))), ?_⟩
    try simp only [cxOf]
    obtain ⟨v, o, t, r, b, t', r', b', rfl, ⟨a, dx, rfl, ha⟩, ⟨bt, br, bb, lw⟩, ho, ⟨bt', br', bb', lw'⟩, q⟩ := h
    have p := lw.pos
    have p' := lw'.pos
    walk_at "W"
    refine ⟨o, rfl, ho.th, ?_⟩
    rw [ho.isN]
    walk_at "W"
    refine ⟨o, t', r', b', rfl, ho, ?_⟩
    rintro m H1 s1 ⟨a', dx', rfl, ha'⟩
    have ha1 := s1 _ _ ha
    repeat (first | walk_at "s" | walk_at "mul" | refine w_fld ha1 T.c_Root T.nf_top (rf_top _ _ _) ?_ | refine w_fld ha1 T.c_Root T.nf_root (rf_root _ _ _) ?_ | refine w_fld ha1 T.c_Root T.nf_bottom (rf_bottom _ _ _) ?_ | refine w_fld ha' T.c_Root T.nf_top (rf_top _ _ _) ?_ | refine w_fld ha' T.c_Root T.nf_root (rf_root _ _ _) ?_ | refine w_fld ha' T.c_Root T.nf_bottom (rf_bottom _ _ _) ?_)
    exact k_mkRootI (Int.mul_ne_zero (by omega) (by omega)) ((bb.mul bb').bd (by decide)) fun v' H' s' hv => q v' H' (s1.trans s') hv
theorem k_ownL {x y : V} {t r b t' r' b' : Int} {H : Hp} {Q : VK} {sp : Sp} {E : XK} {c : Addr} (hx : RootAt c H x t r b) (hy : NumAt c H y t' r' b') (h : sp [x, y] H Q E) : rOwnL c sp E x y H Q := by
  obtain ⟨a, dx, rfl, ha⟩ := hx
  refine ⟨a, dx, _, rfl, ha, ?_, h⟩
  rcases hy with ⟨a', dx', rfl, ha'⟩ | ⟨i, rfl, _⟩
  · exact .inr ⟨a', dx', _, rfl, ha'⟩
  · exact .inl ⟨i, rfl⟩
abbrev s_Root_radd : Stmt := inClass (top 18) 3
theorem sc_Root_radd : FnScope ["self", "other"] ["self", "other"] (defScope s_Root_radd) := ⟨rfl, rfl, rfl, by decide +kernel, rfl, by decide +kernel, by decide +kernel⟩

def sp_Root_radd (Z : Zs) : Sp := fun vs H Q E =>
  spBin Z.c_Root (back plus) vs H Q E
theorem ok_Root_radd (T : Txt Z mg) (h_Root_add : HasM P w Z.K mg base Z.c_Root "__add__" 6 ["self", "other"] (sp_Root_add Z)) (D : AtM Z.K Z.c_Root "__radd__" "Root.__radd__" s_Root_radd ["self", "other"]) : HasM P w Z.K mg base Z.c_Root "__radd__" 7 ["self", "other"] (sp_Root_radd Z) := by
  refine D.ok sc_Root_radd (fun vs H Q E h => ?_) (fun cdv A outer s H vs Q E hr h => ?_)
  · obtain ⟨v, o, t, r, b, t', r', b', rfl, _⟩ := h
    rfl
  · refine ⟨_, (pss_one (ps_ret (pe_op (op_addL T.ow T.ra h_Root_add hr passL) (pv 0) (pv 1)))), ?_⟩
    try simp only [cxOf]
    obtain ⟨v, o, t, r, b, t', r', b', rfl, hv, sm, ho, sm', q⟩ := h
    walk_at "W"
    refine k_ownL hv ho ⟨_, _, t, r, b, t', r', b', rfl, hv, sm, ho, sm', fun v' H' s' hv' => q v' H' s' ?_⟩
    exact hv'.congr (s := 1) (Int.mul_ne_zero sm'.hn sm.hn) (by decide) (by show t * b' + t' * b = (t' * b + t * b') * 1; grind) (by show r * b' + r' * b = (r' * b + r * b') * 1; grind) (by show b * b' = (b' * b) * 1; grind)
abbrev s_Root_rmul : Stmt := inClass (top 18) 7
theorem sc_Root_rmul : FnScope ["self", "other"] ["self", "other"] (defScope s_Root_rmul) := ⟨rfl, rfl, rfl, by decide +kernel, rfl, by decide +kernel, by decide +kernel⟩

def sp_Root_rmul (Z : Zs) : Sp := fun vs H Q E =>
  spBin Z.c_Root (back times) vs H Q E
theorem ok_Root_rmul (T : Txt Z mg) (h_Root_mul : HasM P w Z.K mg base Z.c_Root "__mul__" 6 ["self", "other"] (sp_Root_mul Z)) (D : AtM Z.K Z.c_Root "__rmul__" "Root.__rmul__" s_Root_rmul ["self", "other"]) : HasM P w Z.K mg base Z.c_Root "__rmul__" 7 ["self", "other"] (sp_Root_rmul Z) := by
  refine D.ok sc_Root_rmul (fun vs H Q E h => ?_) (fun cdv A outer s H vs Q E hr h => ?_)
  · obtain ⟨v, o, t, r, b, t', r', b', rfl, _⟩ := h
    rfl
  · refine ⟨_, (pss_one (ps_ret (pe_op (op_mulL T.ow T.rm h_Root_mul hr passL) (pv 0) (pv 1)))), ?_⟩
    try simp only [cxOf]
    obtain ⟨v, o, t, r, b, t', r', b', rfl, hv, sm, ho, sm', q⟩ := h
    walk_at "W"
    refine k_ownL hv ho ⟨_, _, t, r, b, t', r', b', rfl, hv, sm, ho, sm', fun v' H' s' hv' => q v' H' s' ?_⟩
    exact hv'.congr (s := 1) (Int.mul_ne_zero sm'.hn sm.hn) (by decide) (by show t * t' + 2 * r * r' = (t' * t + 2 * r' * r) * 1; grind) (by show t * r' + r * t' = (t' * r + r' * t) * 1; grind) (by show b * b' = (b' * b) * 1; grind)
abbrev s_Root_rsub : Stmt := inClass (top 18) 5
theorem sc_Root_rsub : FnScope ["self", "other"] ["self", "other"] (defScope s_Root_rsub) := ⟨rfl, rfl, rfl, by decide +kernel, rfl, by decide +kernel, by decide +kernel⟩

def sp_Root_rsub (Z : Zs) : Sp := fun vs H Q E =>
  spBin Z.c_Root (back minus) vs H Q E
theorem ok_Root_rsub (T : Txt Z mg) (h_Root_add : HasM P w Z.K mg base Z.c_Root "__add__" 6 ["self", "other"] (sp_Root_add Z)) (h_Root_neg : HasM P w Z.K mg base Z.c_Root "__neg__" 5 ["self"] (sp_Root_neg Z)) (D : AtM Z.K Z.c_Root "__rsub__" "Root.__rsub__" s_Root_rsub ["self", "other"]) : HasM P w Z.K mg base Z.c_Root "__rsub__" 7 ["self", "other"] (sp_Root_rsub Z) := by
  refine D.ok sc_Root_rsub (fun vs H Q E h => ?_) (fun cdv A outer s H vs Q E hr h => ?_)
  · obtain ⟨v, o, t, r, b, t', r', b', rfl, _⟩ := h
    rfl
  · refine ⟨_, (pss_one (ps_ret (pe_op (op_addL T.ow T.ra h_Root_add hr passL) (pe_un (un_own h_Root_neg hr passL) (pv 0)) (pv 1)))), ?_⟩
    try simp only [cxOf]
    obtain ⟨v, o, t, r, b, t', r', b', rfl, hv, sm, ho, sm', q⟩ := h
    walk_at "W"
    obtain ⟨a, dx, rfl, ha⟩ := hv
    refine ⟨a, dx, _, rfl, ha, _, t, r, b, rfl, ⟨a, dx, rfl, ha⟩, sm.hn, sm.hb.bd (by decide), fun u H1 s1 hu => ?_⟩
    walk_at "W"
    have ho1 := ho.same s1
    obtain ⟨bt, br, bb, lw⟩ := sm
    have sn := Sm.low (by have := lw.pos; omega) bt.neg br.neg bb
    refine k_ownL hu ho1 ⟨_, _, _, _, _, t', r', b', rfl, hu, sn, ho1, sm', fun v' H' s' hv' => q v' H' (s1.trans s') ?_⟩
    obtain ⟨s, hs, e1, e2, e3⟩ := (low_is (t := -t) (r := -r) (by have := lw.pos; omega : b ≠ 0)).s
    refine LowAt.congr' hv' (Int.mul_ne_zero sn.hn sm'.hn) hs ?_ ?_ ?_
    · show t' * b - t * b' = (lowT (-t) (-r) b * b' + t' * lowB (-t) (-r) b) * s
      grind
    · show r' * b - r * b' = (lowR (-t) (-r) b * b' + r' * lowB (-t) (-r) b) * s
      grind
    · show b' * b = (lowB (-t) (-r) b * b') * s
      grind
theorem nat_sq2 : ∀ m n : Nat, m * m = 2 * (n * n) → n = 0 := by
  intro m
  induction m using Nat.strongRecOn with
  | ind m ih =>
    intro n h
    rcases Nat.eq_zero_or_pos n with h0 | h0
    · exact h0
    have hn : n < m := by
      rcases Nat.lt_or_ge n m with q | q
      · exact q
      · have := Nat.mul_le_mul q q
        have : 0 < n * n := Nat.mul_pos h0 h0
        omega
    have he : m % 2 = 0 := by
      rcases Nat.mod_two_eq_zero_or_one m with q | q
      · exact q
      · have : m * m % 2 = 1 := by rw [Nat.mul_mod, q]
        omega
    obtain ⟨k, rfl⟩ : ∃ k, m = 2 * k := ⟨m / 2, by omega⟩
    have h2 : n * n = 2 * (k * k) := by
      have : 2 * k * (2 * k) = 4 * (k * k) := by grind
      omega
    have hk := ih n hn k h2
    subst hk
    simp at h2
    rcases Nat.mul_eq_zero.mp h2 with q | q <;> exact q
/-- the square root of 2 is no fraction -/
theorem sq2 {t r : Int} (h : t * t - 2 * r * r = 0) : t = 0 ∧ r = 0 := by
  have e : t.natAbs * t.natAbs = 2 * (r.natAbs * r.natAbs) := by
    have h1 : ((t.natAbs * t.natAbs : Nat) : Int) = t * t := Int.natAbs_mul_self
    have h2 : ((r.natAbs * r.natAbs : Nat) : Int) = r * r := Int.natAbs_mul_self
    have h3 : 2 * r * r = 2 * (r * r) := Int.mul_assoc ..
    omega
  have hr := nat_sq2 _ _ e
  rw [hr] at e
  simp at e
  have h0 : t.natAbs = 0 := by rcases Nat.mul_eq_zero.mp e with q | q <;> exact q
  exact ⟨by omega, by omega⟩
theorem sm_zero {t r b : Int} (h : Sm t r b) : (r = 0 ∧ b = 1 ∧ t = 0) ↔ (t = 0 ∧ r = 0) := by
  constructor
  · rintro ⟨a, _, c⟩; exact ⟨c, a⟩
  · rintro ⟨rfl, rfl⟩
    have o := h.lw.one
    have p := h.lw.pos
    simp at o
    exact ⟨rfl, by omega, rfl⟩
def quot : F3 := ⟨fun t r _ t' r' b' => (t * t' - 2 * r * r') * b', fun t r _ t' r' b' => (r * t' - t * r') * b', fun _ _ b t' r' _ => b * (t' * t' - 2 * r' * r')⟩
/-- an own error with what was bad -/
def Er (Z : Zs) (o : V) (H : Hp) (E : XK) : Prop := ∀ d H', H d = none → Same H H' → H' d = some (.xd [("value", o)]) → E (.ref Z.c_BadNumber) (some d) H'
abbrev s_Root_less : Stmt := inClass (top 18) 10
theorem sc_Root_less : FnScope ["self", "number", "more", "top", "root"] ["self", "number"] (defScope s_Root_less) := ⟨rfl, rfl, rfl, by decide +kernel, rfl, by decide +kernel, by decide +kernel⟩

def sp_Root_less (Z : Zs) : Sp := fun vs H Q E =>
  ∃ v o t r b, vs = [v, o] ∧ RootAt Z.c_Root H v t r b ∧ Sm t r b ∧ Th Z.c_Root H o ∧
    (isN Z.c_Root H o = false ∧ Er Z o H E ∨ ∃ t' r' b', NumAt Z.c_Root H o t' r' b' ∧ Sm t' r' b' ∧
      ∀ H', Same H H' → Q (.bl (decide (sgn (minus.t t r b t' r' b') (minus.r t r b t' r' b') < 0))) H')
theorem ok_Root_less (T : Txt Z mg) (h_surd_sign : Has P w Z.K mg base "surd_sign" 1 ["top", "root"] (sp_surd_sign Z)) (h_as_root : Has P w Z.K mg base "as_root" 5 ["number"] (sp_as_root Z)) (h_is_number : Has P w Z.K mg base "is_number" 2 ["thing"] (sp_is_number Z)) (h_BadNumber : HasX P w Z.K mg base "BadNumber" Z.c_BadNumber 1 ["self", "value"] (sp_BadNumber_init Z)) (D : AtM Z.K Z.c_Root "less" "Root.less" s_Root_less ["self", "number"]) : HasM P w Z.K mg base Z.c_Root "less" 6 ["self", "number"] (sp_Root_less Z) := by
  refine D.ok sc_Root_less (fun vs H Q E h => ?_) (fun cdv A outer s H vs Q E hr h => ?_)
  · obtain ⟨v, o, t, r, b, rfl, _⟩ := h
    rfl
  · refine ⟨_, (pss_cons (ps_if (pt_not (pt_val (pe_h (E := ED E) h_is_number hr (paW (takes_of rfl rfl rfl rfl)) (pa_cons (pv 1) pa_nil)))) (pss_one (ps_raise rfl (takes_of rfl rfl rfl rfl) (pm_h T.x_BadNumber h_BadNumber hr (pa_cons (pv 1) pa_nil)))) pss_nil)
      (pss_cons (ps_set (i := 2) sc_Root_less.nd rfl (Or.inl rfl) (pe_h (E := ED E) h_as_root hr (paW (takes_of rfl rfl rfl rfl)) (pa_cons (pv 1) pa_nil)))
      (pss_cons (ps_set (i := 3) sc_Root_less.nd rfl (Or.inl rfl) (pe_op op_sub (pe_op op_mulS (pe_fld (pv 0) rfl) (pe_fld (pv 2) rfl)) (pe_op op_mulS (pe_fld (pv 2) rfl) (pe_fld (pv 0) rfl))))
      (pss_cons (ps_set (i := 4) sc_Root_less.nd rfl (Or.inl rfl) (pe_op op_sub (pe_op op_mulS (pe_fld (pv 0) rfl) (pe_fld (pv 2) rfl)) (pe_op op_mulS (pe_fld (pv 2) rfl) (pe_fld (pv 0) rfl))))
      (pss_one (ps_ret (pe_cmpR op_lt (pe_h (E := ED E) h_surd_sign hr (paW (takes_of rfl rfl rfl rfl)) (pa_cons (pv 3) (pa_cons (pv 4) pa_nil))) pe_int (nomark _)))))))), ?_⟩
    try simp only [cxOf]
    obtain ⟨v, o, t, r, b, rfl, ⟨a, dx, rfl, ha⟩, ⟨bt, br, bb, lw⟩, ho, hh⟩ := h
    walk_at "W"
    refine ⟨o, rfl, ho, ?_⟩
    rcases hh with ⟨e, er⟩ | ⟨t', r', b', hn, ⟨bt', br', bb', lw'⟩, q⟩
    · rw [e]
      walk_at "W"
      exact k_mkO fun d H2 hd s4 e4 => er d H2 hd s4 e4
    rw [hn.isN]
    walk_at "W"
    refine ⟨o, t', r', b', rfl, hn, ?_⟩
    rintro m H1 s1 ⟨a', dx', rfl, ha'⟩
    have ha1 := s1 _ _ ha
    repeat (first | walk_at "s" | walk_at "mul" | refine w_fld ha1 T.c_Root T.nf_top (rf_top _ _ _) ?_ | refine w_fld ha1 T.c_Root T.nf_root (rf_root _ _ _) ?_ | refine w_fld ha1 T.c_Root T.nf_bottom (rf_bottom _ _ _) ?_ | refine w_fld ha' T.c_Root T.nf_top (rf_top _ _ _) ?_ | refine w_fld ha' T.c_Root T.nf_root (rf_root _ _ _) ?_ | refine w_fld ha' T.c_Root T.nf_bottom (rf_bottom _ _ _) ?_)
    refine ⟨_, _, rfl, ((bt.mul bb').sub (bt'.mul bb)).mono (by decide), ((br.mul bb').sub (br'.mul bb)).mono (by decide), ?_⟩
    walk_at "W"
    exact q H1 s1
abbrev s__law_start : Stmt := top 43
theorem sc__law_start : FnScope ["script"] ["script"] (defScope s__law_start) := ⟨rfl, rfl, rfl, by decide +kernel, rfl, by decide +kernel, by decide +kernel⟩

def sp__law_start (Z : Zs) : Sp := fun vs H Q E =>
  ∃ (a : Addr) (ns : List Int), vs = [.ref a] ∧ SqL Z.K H a (ns.map V.int) ∧ ∀ p c H', H p = none → Same H H' → StA H' p c → Q (.ref p) H'
theorem ok__law_start (T : Txt Z mg)  (D : AtF Z.K mg "_law_start" "_law_start" s__law_start ["script"]) : Has P w Z.K mg base "_law_start" 1 ["script"] (sp__law_start Z) := by
  refine D.ok sc__law_start (fun vs H Q E h => ?_) (fun cdv A outer s H vs Q E hr h => ?_)
  · obtain ⟨a, ns, rfl, _⟩ := h
    rfl
  · refine ⟨_, (pss_one (ps_ret (pe_lst (pa_cons (pe_callTy cn_list rfl T.n_list (by decide +kernel) (pa_cons (pe_slice sl_list (pv 0) po_none (po_some pe_int)) pa_nil)) (pa_cons pe_int (pa_cons pe_int pa_nil)))))), ?_⟩
    try simp only [cxOf]
    obtain ⟨a, ns, rfl, hs, q⟩ := h
    walk_at "W"
    refine k_slL hs fun l H1 hl s1 e1 => ?_
    obtain ⟨ms, em⟩ := cut_ints ns none (some 63)
    rw [em] at e1
    walk_at "W"
    refine w_listL (SqL.of e1) fun l2 H2 hl2 s2 e2 => ?_
    walk_at "W"
    refine k_lst rfl fun p H3 hp s3 e3 => ?_
    exact q p l2 H3 ((s1.trans s2).free hp) (s1.trans (s2.trans s3)) ⟨ms, 0, 0, e3, s3 _ _ e2, fun z => (by rw [z] at e2; rw [hp] at e2; cases e2), by decide, by decide⟩
abbrev s__law_mixed : Stmt := top 44
theorem sc__law_mixed : FnScope ["cell", "count", "number"] ["cell", "count"] (defScope s__law_mixed) := ⟨rfl, rfl, rfl, by decide +kernel, rfl, by decide +kernel, by decide +kernel⟩

def sp__law_mixed (Z : Zs) : Sp := fun vs H Q E =>
  ∃ c n : Int, vs = [.int c, .int n] ∧ ∀ r : Int, 0 ≤ r → r < 2147483399 → Q (.int r) H
theorem ok__law_mixed (T : Txt Z mg)  (D : AtF Z.K mg "_law_mixed" "_law_mixed" s__law_mixed ["cell", "count"]) : Has P w Z.K mg base "_law_mixed" 1 ["cell", "count"] (sp__law_mixed Z) := by
  refine D.ok sc__law_mixed (fun vs H Q E h => ?_) (fun cdv A outer s H vs Q E hr h => ?_)
  · obtain ⟨c, n, rfl, _⟩ := h
    rfl
  · refine ⟨_, (pss_cons (ps_set (i := 2) sc__law_mixed.nd rfl (Or.inl rfl) (pe_op op_mod (pe_op op_mulS (pe_callTy cn_int rfl T.n_int (by decide +kernel) (pa_cons (pe_op op_add (pe_op op_add (pv 0) (pe_op op_mulS pe_int (pv 1))) pe_int) pa_nil)) pe_int) pe_int))
      (pss_cons (ps_set (i := 2) sc__law_mixed.nd rfl (Or.inl rfl) (pe_op op_mod (pe_op op_mulS (pv 2) (pe_op op_add (pe_op op_fdivW (pv 2) pe_int) pe_int)) pe_int))
      (pss_one (ps_ret (pe_op op_mod (pe_op op_mulS (pv 2) (pe_op op_add (pe_op op_fdivW (pv 2) pe_int) pe_int)) pe_int))))), ?_⟩
    try simp only [cxOf]
    obtain ⟨c, n, rfl, q⟩ := h
    walk_at "W"
    exact q _ (Int.emod_nonneg _ (by decide)) (Int.emod_lt_of_pos _ (by decide))
abbrev s__law_draw : Stmt := top 45
theorem sc__law_draw : FnScope ["state", "many", "digit", "cells", "at", "cell", "number", "turn"] ["state", "many"] (defScope s__law_draw) := ⟨rfl, rfl, rfl, by decide +kernel, rfl, by decide +kernel, by decide +kernel⟩

def sp__law_draw (Z : Zs) : Sp := fun vs H Q E =>
  ∃ p c many, vs = [.ref p, .int many] ∧ StA H p c ∧ 0 < many ∧ Bd many ∧ ∀ n H', 0 ≤ n → n < many → SameX p H H' → StA H' p c → Q (.int n) H'
theorem ok__law_draw (T : Txt Z mg) (h__law_mixed : Has P w Z.K mg base "_law_mixed" 1 ["cell", "count"] (sp__law_mixed Z)) (D : AtF Z.K mg "_law_draw" "_law_draw" s__law_draw ["state", "many"]) : Has P w Z.K mg base "_law_draw" 2 ["state", "many"] (sp__law_draw Z) := by
  refine D.ok sc__law_draw (fun vs H Q E h => ?_) (fun cdv A outer s H vs Q E hr h => ?_)
  · obtain ⟨p, c, many, rfl, _⟩ := h
    rfl
  · refine ⟨_, (pss_cons (ps_if (pt_cmpR op_gt (pe_ix ix_seq (pv 0) pe_int (fun _ _ => rfl)) pe_int (nomark _)) (pss_cons (ps_set (i := 2) sc__law_draw.nd rfl (Or.inl rfl) (pe_op op_mod (pe_callTy cn_int rfl T.n_int (by decide +kernel) (pa_cons (pe_ix ix_seq (pv 0) pe_int (fun _ _ => rfl)) pa_nil)) (pv 1)))
      (pss_cons (ps_asg (pe_op op_fdivW (pe_ix ix_seq (pv 0) pe_int (fun _ _ => rfl)) (pv 1)) (pg_sub (pv 0) pe_int set_list))
      (pss_one (ps_ret (pv 2))))) pss_nil)
      (pss_cons (ps_set (i := 3) sc__law_draw.nd rfl (Or.inl rfl) (pe_ix ix_seq (pv 0) pe_int (fun _ _ => rfl)))
      (pss_cons (ps_set (i := 4) sc__law_draw.nd rfl (Or.inl rfl) (pe_ix ix_seq (pv 0) pe_int (fun _ _ => rfl)))
      (pss_cons (ps_asg (pe_op op_add (pv 4) pe_int) (pg_sub (pv 0) pe_int set_list))
      (C8.pss_cut (ps_if (PW.pt (pw_and (pt_cmpR op_lt (pv 4) (pe_callB cn_len rfl T.n_len (by decide +kernel) (pa_cons (pv 3) pa_nil)) (nomark _)) (pw_and1 (pt_cmpR op_ge (pe_callB cn_abs rfl T.n_abs (by decide +kernel) (pa_cons (pe_ix ix_seq (pv 3) (pv 4) (fun _ _ => rfl)) pa_nil)) (pe_op op_pow pe_int pe_int) (nomark _))))) (pss_cons (ps_asg (pe_op op_fdivW (pe_callB cn_abs rfl T.n_abs (by decide +kernel) (pa_cons (pe_ix ix_seq (pv 3) (pv 4) (fun _ _ => rfl)) pa_nil)) (pv 1)) (pg_sub (pv 0) pe_int set_list))
      (pss_one (ps_ret (pe_op op_mod (pe_callTy cn_int rfl T.n_int (by decide +kernel) (pa_cons (pe_callB cn_abs rfl T.n_abs (by decide +kernel) (pa_cons (pe_ix ix_seq (pv 3) (pv 4) (fun _ _ => rfl)) pa_nil)) pa_nil)) (pv 1))))) pss_nil)
      (pss_cons (ps_set (i := 5) sc__law_draw.nd rfl (Or.inl rfl) pe_int)
      (C8.pss_cut (ps_if (pt_cmpR op_gt (pe_callB cn_len rfl T.n_len (by decide +kernel) (pa_cons (pv 3) pa_nil)) pe_int (nomark _)) (pss_one (ps_set (i := 5) sc__law_draw.nd rfl (Or.inl rfl) (pe_ix ix_seq (pv 3) (pe_op op_mod (pe_callTy cn_int rfl T.n_int (by decide +kernel) (pa_cons (pv 4) pa_nil)) (pe_callB cn_len rfl T.n_len (by decide +kernel) (pa_cons (pv 3) pa_nil))) (fun _ _ => rfl)))) pss_nil)
      (pss_cons (ps_set (i := 6) sc__law_draw.nd rfl (Or.inl rfl) (pe_h (E := ED E) h__law_mixed hr (paW (takes_of rfl rfl rfl rfl)) (pa_cons (pv 5) (pa_cons (pv 4) pa_nil))))
      (C8.pss_cut (ps_if (pt_cmpR op_gt (pv 1) pe_int (nomark _)) (pss_one (ps_for (passes_of rfl) rfl (pi_range1 rfl T.n_range (pa_cons pe_int pa_nil)) (pg_name (i := 7) sc__law_draw.nd rfl (Or.inl rfl)) (pss_one (ps_set (i := 6) sc__law_draw.nd rfl (Or.inl rfl) (pe_op op_add (pe_op op_mulS (pv 6) pe_int) (pe_h (E := ED E) h__law_mixed hr (paW (takes_of rfl rfl rfl rfl)) (pa_cons (pe_op op_add (pv 5) (pe_op op_mulS pe_int (pv 7))) (pa_cons (pe_op op_add (pe_op op_add (pe_op op_mulS pe_int (pv 4)) (pe_op op_mulS pe_int (pv 7))) pe_int) pa_nil)))))))) pss_nil)
      (pss_one (ps_ret (pe_op op_mod (pe_callTy cn_int rfl T.n_int (by decide +kernel) (pa_cons (pv 6) pa_nil)) (pv 1))))))))))))), ?_⟩
    try simp only [cxOf]
    obtain ⟨p, c, many, rfl, ⟨ns, at_, pend, hp, hc, cp, h0, h1⟩, hm, hmb, q⟩ := h
    have hdw : ∀ x : Int, CDivW x many := fun x => wide_div hm hmb (by decide) (by decide)
    walk_at "W"
    refine w_ite (fun hg => ?_) (fun hg => ?_)
    · walk_at "W"
      refine w_I (hdw _) ?_
      walk_at "W"
      refine w_setL hp rfl fun H1 s1 e1 => ?_
      walk_at "W"
      exact q _ _ (Int.emod_nonneg _ (by omega)) (Int.emod_lt_of_pos _ hm) s1 ⟨ns, at_, pend / many, e1, s1 _ _ cp hc, cp, h0, Int.ediv_nonneg h1 (by omega)⟩
    walk_at "W"
    refine w_setL hp rfl fun H1 s1 e1 => ?_
    have hc1 : H1 c = some (.lst (ns.map V.int)) := s1 _ _ cp hc
    have st1 : StA H1 p c := ⟨ns, at_ + 1, pend, e1, hc1, cp, by omega, h1⟩
    walk_at "W"
    refine w_cutE (σ' := [some (.ref p), some (.int many), none, some (.ref c), some (.int at_), none, none, none]) (H' := H1) ?_ ?_
    · walk_at "W"
      refine w_lenL (SqL.of hc1) ?_
      walk_at "W"
      refine w_ite (fun hl => ?_) (fun hl => ?_)
      · obtain ⟨z, hz⟩ := atI_ints (ns := ns) h0 (by simpa using hl)
        walk_at "W"
        refine w_ixL hc1 hz ?_
        walk_at "W"
        refine w_ite (fun _ => ?_) (fun _ => ?_)
        · walk_at "W"
          refine w_ixL hc1 hz ?_
          walk_at "W"
          refine w_I (hdw _) ?_
          walk_at "W"
          refine w_setL e1 rfl fun H2 s2 e2 => ?_
          walk_at "W"
          have hc2 : H2 c = some (.lst (ns.map V.int)) := s2 _ _ cp hc1
          refine w_ixL hc2 hz ?_
          walk_at "W"
          exact q _ _ (Int.emod_nonneg _ (by omega)) (Int.emod_lt_of_pos _ hm) (s1.trans s2) ⟨ns, at_ + 1, _, e2, hc2, cp, by omega, Int.ediv_nonneg (Int.natCast_nonneg _) (by omega)⟩
        · walk_at "W"
          exact ⟨rfl, rfl⟩
      · walk_at "W"
        exact ⟨rfl, rfl⟩
    walk_at "W"
    refine w_cut (fun σ' H' => H' = H1 ∧ ∃ z : Int, σ' = [some (.ref p), some (.int many), none, some (.ref c), some (.int at_), some (.int z), none, none]) ?_ ?_
    · walk_at "W"
      refine w_lenL (SqL.of hc1) ?_
      walk_at "W"
      refine w_ite (fun hl => ?_) (fun hl => ?_)
      · walk_at "W"
        refine w_lenL (SqL.of hc1) ?_
        walk_at "W"
        have hl' : 0 < (ns.length : Int) := by simpa using hl
        have hl2 : (0 : Int) < (((ns.map V.int).length : Nat) : Int) := by simpa using hl'
        obtain ⟨z, hz⟩ := atI_ints (ns := ns) (k := at_ % ((ns.map V.int).length : Int)) (Int.emod_nonneg _ (by rw [List.length_map]; omega)) (by have := Int.emod_lt_of_pos at_ (b := ((ns.map V.int).length : Int)) (by simpa using hl'); simpa using this)
        refine w_ixL hc1 hz ?_
        walk_at "W"
        exact ⟨rfl, z, rfl⟩
      · walk_at "W"
        exact ⟨rfl, 0, rfl⟩
    rintro σ1 H2 ⟨rfl, z, rfl⟩
    walk_at "W"
    refine ⟨z, at_, rfl, fun r hr0 hr1 => ?_⟩
    walk_at "W"
    refine w_cut (fun σ' H' => Same H2 H' ∧ ∃ (n : Int) (v : Option V), σ' = [some (.ref p), some (.int many), none, some (.ref c), some (.int at_), some (.int z), some (.int n), v]) ?_ ?_
    · walk_at "W"
      refine w_ite (fun _ => ?_) (fun _ => ?_)
      · walk_at "W"
        refine k_forR (fun _ σ' H' => Same H2 H' ∧ ∃ (n : Int) (v : Option V), σ' = [some (.ref p), some (.int many), none, some (.ref c), some (.int at_), some (.int z), some (.int n), v]) (by decide) (by decide) ⟨Same.refl _, r, none, rfl⟩ ?_ ?_
        · rintro i σ' H' hi ⟨s2, n, v, rfl⟩
          have hi7 : i < 7 := hi
          walk_at "W"
          refine ⟨_, _, rfl, fun r' _ _ => ?_⟩
          walk_at "W"
          exact ⟨s2, _, _, rfl⟩
        · rintro σ' H' ⟨s2, n, v, rfl⟩
          walk_at "W"
          exact ⟨s2, n, v, rfl⟩
      · walk_at "W"
        exact ⟨Same.refl _, r, none, rfl⟩
    rintro σ1 H3 ⟨s2, n, v, rfl⟩
    walk_at "W"
    exact q _ _ (Int.emod_nonneg _ (by omega)) (Int.emod_lt_of_pos _ hm) (s1.trans (Same.x s2)) (st1.same s2)
abbrev s__law_between : Stmt := top 46
theorem sc__law_between : FnScope ["state", "least", "most"] ["state", "least", "most"] (defScope s__law_between) := ⟨rfl, rfl, rfl, by decide +kernel, rfl, by decide +kernel, by decide +kernel⟩

def sp__law_between (Z : Zs) : Sp := fun vs H Q E =>
  ∃ p c lo hi, vs = [.ref p, .int lo, .int hi] ∧ StA H p c ∧ lo ≤ hi ∧ Bd (hi - lo + 1) ∧ ∀ n H', lo ≤ n → n ≤ hi → SameX p H H' → StA H' p c → Q (.int n) H'
theorem ok__law_between (T : Txt Z mg) (h__law_draw : Has P w Z.K mg base "_law_draw" 2 ["state", "many"] (sp__law_draw Z)) (D : AtF Z.K mg "_law_between" "_law_between" s__law_between ["state", "least", "most"]) : Has P w Z.K mg base "_law_between" 3 ["state", "least", "most"] (sp__law_between Z) := by
  refine D.ok sc__law_between (fun vs H Q E h => ?_) (fun cdv A outer s H vs Q E hr h => ?_)
  · obtain ⟨p, c, lo, hi, rfl, _⟩ := h
    rfl
  · refine ⟨_, (pss_one (ps_ret (pe_op op_add (pv 1) (pe_h (E := ED E) h__law_draw hr (paW (takes_of rfl rfl rfl rfl)) (pa_cons (pv 0) (pa_cons (pe_op op_add (pe_op op_sub (pv 2) (pv 1)) pe_int) pa_nil)))))), ?_⟩
    try simp only [cxOf]
    obtain ⟨p, c, lo, hi, rfl, hs, hl, hb, q⟩ := h
    walk_at "W"
    refine ⟨p, c, _, rfl, hs, by omega, hb, fun n H' h0 h1 s1 st => ?_⟩
    walk_at "W"
    exact q _ H' (by omega) (by omega) s1 st
theorem natgcd_mod (a b : Nat) : Nat.gcd b (a % b) = Nat.gcd a b := by rw [Nat.gcd_comm a b, Nat.gcd_rec b a, Nat.gcd_comm]
theorem bd_of {x : Int} {n : Nat} (h : x.natAbs ≤ n) (hn : Nat.blt n (2 ^ 8000) = true) : Bd x := Nat.lt_of_le_of_lt h (by simpa using hn)
/-- three ints of a list that a law has made, beside its state -/
def L3 (H : Hp) (st sc pl : Addr) (m : Nat) (t r b : Int) : Prop := H pl = some (.lst [.int t, .int r, .int b]) ∧ (pl ≠ st ∧ pl ≠ sc) ∧ t.natAbs ≤ m ∧ r.natAbs ≤ m ∧ b.natAbs ≤ m
theorem L3.sx {H H' : Hp} {st sc pl : Addr} {m : Nat} {t r b : Int} (h : L3 H st sc pl m t r b) (s : SameX st H H') : L3 H' st sc pl m t r b := ⟨s _ _ h.2.1.1 h.1, h.2⟩
theorem len3 {ns : List Int} (h : ns.length = 3) : ∃ a b c, ns = [a, b, c] := by
  match ns, h with
  | [a, b, c], _ => exact ⟨a, b, c, rfl⟩
theorem k_draw {st sc : Addr} {many : Int} {H : Hp} {Q : VK} {E : XK} (hs : StA H st sc) (h1 : 0 < many) (h2 : Nat.blt many.natAbs 1000000 = true) (q : ∀ n H', 0 ≤ n → n < many → SameX st H H' → StA H' st sc → Q (.int n) H') : sp__law_draw Z [.ref st, .int many] H Q E :=
  ⟨st, sc, many, rfl, hs, h1, Nat.lt_of_lt_of_le (by simpa using h2 : many.natAbs < 1000000) (by decide), q⟩
theorem k_between {st sc : Addr} {lo hi : Int} {H : Hp} {Q : VK} {E : XK} (hs : StA H st sc) (h1 : lo ≤ hi) (h2 : (hi - lo + 1).natAbs ≤ 10 ^ 30) (q : ∀ n H', lo ≤ n → n ≤ hi → SameX st H H' → StA H' st sc → Q (.int n) H') : sp__law_between Z [.ref st, .int lo, .int hi] H Q E :=
  ⟨st, sc, lo, hi, rfl, hs, h1, Nat.lt_of_le_of_lt h2 (by decide), q⟩
theorem fdiv_small {t b : Int} (hb : b ≠ 0) (h : t.fmod b = 0) : (t.fdiv b).natAbs ≤ t.natAbs := by
  have e := Int.fmod_add_mul_fdiv t b
  rw [h, Int.zero_add] at e
  have : t.natAbs = b.natAbs * (t.fdiv b).natAbs := by rw [← Int.natAbs_mul, e]
  rw [this]
  exact Nat.le_mul_of_pos_left _ (Int.natAbs_pos.mpr hb)
theorem bdm {x y : Int} (hx : Bd x) (hy : Bd y) : CMulS x y := .inr (.inr (wide_mul hx hy (by decide) (by decide) (by decide)))
theorem Th.isN_same {c : Addr} {H H' : Hp} {v : V} (h : Th c H v) (s : Same H H') : isN c H' v = isN c H v := by
  have k : ∀ {a : Addr} {o : HO}, H a = some o → isN c H' (.ref a) = isN c H (.ref a) := fun {a o} e => by
    unfold isN isC
    simp only [e, s _ _ e]
  cases h with
  | lst a xs e => exact k e
  | tup a xs e => exact k e
  | dK a xs e => exact k e
  | root a dx t r b e => exact k e
  | _ => rfl
abbrev s__law_plus : Stmt := top 47
theorem sc__law_plus : FnScope ["one", "other"] ["one", "other"] (defScope s__law_plus) := ⟨rfl, rfl, rfl, by decide +kernel, rfl, by decide +kernel, by decide +kernel⟩

def sp__law_plus (Z : Zs) : Sp := fun vs H Q E =>
  spTwo plus vs H Q E
theorem ok__law_plus (T : Txt Z mg)  (D : AtF Z.K mg "_law_plus" "_law_plus" s__law_plus ["one", "other"]) : Has P w Z.K mg base "_law_plus" 1 ["one", "other"] (sp__law_plus Z) := by
  refine D.ok sc__law_plus (fun vs H Q E h => ?_) (fun cdv A outer s H vs Q E hr h => ?_)
  · obtain ⟨p, p', t, r, b, t', r', b', rfl, _⟩ := h
    rfl
  · refine ⟨_, (pss_one (ps_ret (pe_tup (pa_cons (pe_op op_add (pe_op op_mulS (pe_ix ix_seq (pv 0) pe_int (fun _ _ => rfl)) (pe_ix ix_seq (pv 1) pe_int (fun _ _ => rfl))) (pe_op op_mulS (pe_ix ix_seq (pv 1) pe_int (fun _ _ => rfl)) (pe_ix ix_seq (pv 0) pe_int (fun _ _ => rfl)))) (pa_cons (pe_op op_add (pe_op op_mulS (pe_ix ix_seq (pv 0) pe_int (fun _ _ => rfl)) (pe_ix ix_seq (pv 1) pe_int (fun _ _ => rfl))) (pe_op op_mulS (pe_ix ix_seq (pv 1) pe_int (fun _ _ => rfl)) (pe_ix ix_seq (pv 0) pe_int (fun _ _ => rfl)))) (pa_cons (pe_op op_mulS (pe_ix ix_seq (pv 0) pe_int (fun _ _ => rfl)) (pe_ix ix_seq (pv 1) pe_int (fun _ _ => rfl))) pa_nil)))))), ?_⟩
    try simp only [cxOf]
    obtain ⟨p, p', t, r, b, t', r', b', rfl, h1, h2, ⟨bt, br, bb⟩, ⟨bt', br', bb'⟩, q⟩ := h
    unfold T3 at h1 h2
    repeat (first | walk_at "s" | walk_at "mul")
    exact k_tup rfl q
abbrev s__law_minus : Stmt := top 48
theorem sc__law_minus : FnScope ["one", "other"] ["one", "other"] (defScope s__law_minus) := ⟨rfl, rfl, rfl, by decide +kernel, rfl, by decide +kernel, by decide +kernel⟩

def sp__law_minus (Z : Zs) : Sp := fun vs H Q E =>
  spTwo minus vs H Q E
theorem ok__law_minus (T : Txt Z mg)  (D : AtF Z.K mg "_law_minus" "_law_minus" s__law_minus ["one", "other"]) : Has P w Z.K mg base "_law_minus" 1 ["one", "other"] (sp__law_minus Z) := by
  refine D.ok sc__law_minus (fun vs H Q E h => ?_) (fun cdv A outer s H vs Q E hr h => ?_)
  · obtain ⟨p, p', t, r, b, t', r', b', rfl, _⟩ := h
    rfl
  · refine ⟨_, (pss_one (ps_ret (pe_tup (pa_cons (pe_op op_sub (pe_op op_mulS (pe_ix ix_seq (pv 0) pe_int (fun _ _ => rfl)) (pe_ix ix_seq (pv 1) pe_int (fun _ _ => rfl))) (pe_op op_mulS (pe_ix ix_seq (pv 1) pe_int (fun _ _ => rfl)) (pe_ix ix_seq (pv 0) pe_int (fun _ _ => rfl)))) (pa_cons (pe_op op_sub (pe_op op_mulS (pe_ix ix_seq (pv 0) pe_int (fun _ _ => rfl)) (pe_ix ix_seq (pv 1) pe_int (fun _ _ => rfl))) (pe_op op_mulS (pe_ix ix_seq (pv 1) pe_int (fun _ _ => rfl)) (pe_ix ix_seq (pv 0) pe_int (fun _ _ => rfl)))) (pa_cons (pe_op op_mulS (pe_ix ix_seq (pv 0) pe_int (fun _ _ => rfl)) (pe_ix ix_seq (pv 1) pe_int (fun _ _ => rfl))) pa_nil)))))), ?_⟩
    try simp only [cxOf]
    obtain ⟨p, p', t, r, b, t', r', b', rfl, h1, h2, ⟨bt, br, bb⟩, ⟨bt', br', bb'⟩, q⟩ := h
    unfold T3 at h1 h2
    repeat (first | walk_at "s" | walk_at "mul")
    exact k_tup rfl q
abbrev s__law_sign : Stmt := top 49
theorem sc__law_sign : FnScope ["number", "top", "root"] ["number"] (defScope s__law_sign) := ⟨rfl, rfl, rfl, by decide +kernel, rfl, by decide +kernel, by decide +kernel⟩

def sp__law_sign (Z : Zs) : Sp := fun vs H Q E =>
  ∃ p t r b, vs = [.ref p] ∧ T3 H p t r b ∧ Bw 3000 t ∧ Bw 3000 r ∧ Q (.int (sgn t r)) H
theorem ok__law_sign (T : Txt Z mg)  (D : AtF Z.K mg "_law_sign" "_law_sign" s__law_sign ["number"]) : Has P w Z.K mg base "_law_sign" 1 ["number"] (sp__law_sign Z) := by
  refine D.ok sc__law_sign (fun vs H Q E h => ?_) (fun cdv A outer s H vs Q E hr h => ?_)
  · obtain ⟨p, t, r, b, rfl, _⟩ := h
    rfl
  · refine ⟨_, (pss_cons (ps_set (i := 1) sc__law_sign.nd rfl (Or.inl rfl) (pe_ix ix_seq (pv 0) pe_int (fun _ _ => rfl)))
      (pss_cons (ps_set (i := 2) sc__law_sign.nd rfl (Or.inl rfl) (pe_ix ix_seq (pv 0) pe_int (fun _ _ => rfl)))
      (C8.pss_cut (ps_if (PW.pt (pw_and (pt_cmpR op_eq (pv 1) pe_int (nomark _)) (pw_and1 (pt_cmpR op_eq (pv 2) pe_int (nomark _))))) (pss_one (ps_ret pe_int)) pss_nil)
      (C8.pss_cut (ps_if (PW.pt (pw_and (pt_cmpR op_ge (pv 1) pe_int (nomark _)) (pw_and1 (pt_cmpR op_ge (pv 2) pe_int (nomark _))))) (pss_one (ps_ret pe_int)) pss_nil)
      (C8.pss_cut (ps_if (PW.pt (pw_and (pt_cmpR op_le (pv 1) pe_int (nomark _)) (pw_and1 (pt_cmpR op_le (pv 2) pe_int (nomark _))))) (pss_one (ps_ret (pe_un un_neg pe_int))) pss_nil)
      (pss_cons (ps_if (pt_cmpR op_gt (pe_op op_mulS (pv 1) (pv 1)) (pe_op op_mulS (pe_op op_mulS pe_int (pv 2)) (pv 2)) (nomark _)) (pss_one (ps_ret (pe_ifExp (pt_cmpR op_gt (pv 1) pe_int (nomark _)) pe_int (pe_un un_neg pe_int)))) pss_nil)
      (pss_one (ps_ret (pe_ifExp (pt_cmpR op_gt (pv 2) pe_int (nomark _)) pe_int (pe_un un_neg pe_int)))))))))), ?_⟩
    try simp only [cxOf]
    obtain ⟨p, t, r, b, rfl, h1, bt, br, q⟩ := h
    unfold T3 at h1
    have L : ∀ {k : Int}, sgn t r = k → Q (.int k) H := fun e => e ▸ q
    walk_at "W"
    refine w_cut (fun σ' H' => (σ' = [some (.ref p), some (.int t), some (.int r)] ∧ H' = H) ∧ ¬ (t = 0 ∧ r = 0)) ?_ ?_
    · walk_at "W"
      refine w_ite (fun h1 => ?_) (fun h1 => ?_)
      · walk_at "W"
        refine w_ite (fun h2 => ?_) (fun h2 => ?_)
        · walk_at "W"
          exact L (by unfold sgn; rw [if_pos]; simp at h1 h2; omega)
        · walk_at "W"
          exact ⟨⟨rfl, rfl⟩, by simp at h1 h2; omega⟩
      · walk_at "W"
        exact ⟨⟨rfl, rfl⟩, by simp at h1; omega⟩
    rintro σ' H' ⟨⟨rfl, rfl⟩, n1⟩
    walk_at "W"
    refine w_cut (fun σ' H1 => (σ' = [some (.ref p), some (.int t), some (.int r)] ∧ H1 = H') ∧ ¬ (0 ≤ t ∧ 0 ≤ r)) ?_ ?_
    · walk_at "W"
      refine w_ite (fun h1 => ?_) (fun h1 => ?_)
      · walk_at "W"
        refine w_ite (fun h2 => ?_) (fun h2 => ?_)
        · walk_at "W"
          exact L (by unfold sgn; rw [if_neg n1, if_pos ⟨h1, h2⟩])
        · walk_at "W"
          exact ⟨⟨rfl, rfl⟩, fun z => h2 z.2⟩
      · walk_at "W"
        exact ⟨⟨rfl, rfl⟩, fun z => h1 z.1⟩
    rintro σ' H1 ⟨⟨rfl, rfl⟩, n2⟩
    walk_at "W"
    refine w_cut (fun σ' H' => (σ' = [some (.ref p), some (.int t), some (.int r)] ∧ H' = H1) ∧ ¬ (t ≤ 0 ∧ r ≤ 0)) ?_ ?_
    · walk_at "W"
      refine w_ite (fun h1 => ?_) (fun h1 => ?_)
      · walk_at "W"
        refine w_ite (fun h2 => ?_) (fun h2 => ?_)
        · walk_at "W"
          exact L (by unfold sgn; rw [if_neg n1, if_neg n2, if_pos ⟨h1, h2⟩])
        · walk_at "W"
          exact ⟨⟨rfl, rfl⟩, fun z => h2 z.2⟩
      · walk_at "W"
        exact ⟨⟨rfl, rfl⟩, fun z => h1 z.1⟩
    rintro σ' H' ⟨⟨rfl, rfl⟩, n3⟩
    repeat (first | walk_at "s" | walk_at "mul")
    have go : ∀ {k : Int}, (if t * t > 2 * r * r then (if 0 < t then 1 else -1) else if 0 < r then 1 else -1) = k → Q (.int k) H' := fun e => L (by unfold sgn; rw [if_neg n1, if_neg n2, if_neg n3]; exact e)
    refine w_ite (fun h1 => ?_) (fun h1 => ?_)
    · walk_at "W"
      refine w_ite (fun h2 => ?_) (fun h2 => ?_)
      · walk_at "W"
        exact go (by rw [if_pos h1, if_pos h2])
      · walk_at "W"
        exact go (by rw [if_pos h1, if_neg h2])
    · walk_at "W"
      refine w_ite (fun h2 => ?_) (fun h2 => ?_)
      · walk_at "W"
        exact go (by rw [if_neg h1, if_pos h2])
      · walk_at "W"
        exact go (by rw [if_neg h1, if_neg h2])
/-! ### what two numbers make, told of the same numbers times something -/
def Hom (F : F3) : Prop := ∀ t r b t' r' b' s s' : Int, s ≠ 0 → s' ≠ 0 → ∃ k : Int, k ≠ 0 ∧ F.t (t * s) (r * s) (b * s) (t' * s') (r' * s') (b' * s') = F.t t r b t' r' b' * k ∧
  F.r (t * s) (r * s) (b * s) (t' * s') (r' * s') (b' * s') = F.r t r b t' r' b' * k ∧ F.b (t * s) (r * s) (b * s) (t' * s') (r' * s') (b' * s') = F.b t r b t' r' b' * k
theorem hom_plus : Hom plus := fun t r b t' r' b' s s' h h' => ⟨s * s', Int.mul_ne_zero h h', by unfold plus; dsimp only; grind, by unfold plus; dsimp only; grind, by unfold plus; dsimp only; grind⟩
theorem hom_minus : Hom minus := fun t r b t' r' b' s s' h h' => ⟨s * s', Int.mul_ne_zero h h', by unfold minus; dsimp only; grind, by unfold minus; dsimp only; grind, by unfold minus; dsimp only; grind⟩
theorem hom_times : Hom times := fun t r b t' r' b' s s' h h' => ⟨s * s', Int.mul_ne_zero h h', by unfold times; dsimp only; grind, by unfold times; dsimp only; grind, by unfold times; dsimp only; grind⟩
theorem hom_quot : Hom quot := fun t r b t' r' b' s s' h h' => ⟨s * (s' * s'), Int.mul_ne_zero h (Int.mul_ne_zero h' h'), by unfold quot; dsimp only; grind, by unfold quot; dsimp only; grind, by unfold quot; dsimp only; grind⟩
/-- what the lowest terms make is what the numbers make -/
theorem low_hom {F : F3} (hF : Hom F) {c : Addr} {H : Hp} {v : V} {t r b t' r' b' : Int} (hb : b ≠ 0) (hb' : b' ≠ 0) (n : F.b (lowT t r b) (lowR t r b) (lowB t r b) (lowT t' r' b') (lowR t' r' b') (lowB t' r' b') ≠ 0)
    (h : LowAt c H v (F.t (lowT t r b) (lowR t r b) (lowB t r b) (lowT t' r' b') (lowR t' r' b') (lowB t' r' b')) (F.r (lowT t r b) (lowR t r b) (lowB t r b) (lowT t' r' b') (lowR t' r' b') (lowB t' r' b')) (F.b (lowT t r b) (lowR t r b) (lowB t r b) (lowT t' r' b') (lowR t' r' b') (lowB t' r' b'))) :
    LowAt c H v (F.t t r b t' r' b') (F.r t r b t' r' b') (F.b t r b t' r' b') := by
  obtain ⟨s, hs, e1, e2, e3⟩ := (low_is (t := t) (r := r) hb).s
  obtain ⟨s', hs', e1', e2', e3'⟩ := (low_is (t := t') (r := r') hb').s
  obtain ⟨k, hk, k1, k2, k3⟩ := hF (lowT t r b) (lowR t r b) (lowB t r b) (lowT t' r' b') (lowR t' r' b') (lowB t' r' b') s s' hs hs'
  rw [← e1, ← e2, ← e3, ← e1', ← e2', ← e3'] at k1 k2 k3
  exact h.congr' n hk k1 k2 k3
theorem k_ownB {x y : V} {t r b t' r' b' : Int} {H : Hp} {Q : VK} {sp spr : Sp} {E : XK} {c : Addr} {F : F3} (e1 : sp = spBin c F) (e2 : spr = spBin c (back F)) (hx : NumAt c H x t r b) (hy : NumAt c H y t' r' b') (one : RootAt c H x t r b ∨ RootAt c H y t' r' b') (sm : Sm t r b) (sm' : Sm t' r' b')
    (q : ∀ v' H', Same H H' → LowAt c H' v' (F.t t r b t' r' b') (F.r t r b t' r' b') (F.b t r b t' r' b') → Q v' H') : rOwnB c sp spr E x y H Q := by
  subst e1 e2
  have two : ∀ {v : V} {t r b : Int}, NumAt c H v t r b → (∃ i, v = .int i) ∨ ∃ a' dx' fs', v = .ref a' ∧ H a' = some (.ins c dx' fs') := fun h => by
    rcases h with ⟨a', dx', rfl, ha'⟩ | ⟨i, rfl, _⟩
    · exact .inr ⟨a', dx', _, rfl, ha'⟩
    · exact .inl ⟨i, rfl⟩
  rcases hx with hx | ⟨i, rfl, hi⟩
  · have hx' := hx
    obtain ⟨a, dx, rfl, ha⟩ := hx
    exact .inl ⟨a, dx, _, rfl, ha, two hy, _, _, t, r, b, t', r', b', rfl, hx', sm, hy, sm', q⟩
  · rcases one with ⟨a, dx, z, _⟩ | hy'
    · cases z
    · have hy2 := hy'
      obtain ⟨a, dx, rfl, ha⟩ := hy2
      exact .inr ⟨i, a, dx, _, rfl, rfl, ha, _, _, t', r', b', t, r, b, rfl, hy', sm', .inr ⟨i, rfl, hi⟩, sm, q⟩
theorem eqRt_num {H : Hp} {t r b t' r' b' : Int} {v : V} {c : Addr} (h : NumAt c H v t' r' b') : eqRt H t r b v = decide (t' = t ∧ r' = r ∧ b' = b) ∨ ∃ i, v = .int i ∧ t' = i ∧ r' = 0 ∧ b' = 1 ∧ eqRt H t r b v = (decide (r = 0) && (decide (b = 1) && decide (t = i))) := by
  rcases h with h | ⟨i, rfl, h1, h2, h3⟩
  · exact .inl (eqRt_root h)
  · exact .inr ⟨i, rfl, h1, h2, h3, rfl⟩
theorem eqRt_self {H : Hp} {t r b : Int} {v : V} {c : Addr} (h : NumAt c H v t r b) : eqRt H t r b v = true := by
  rcases eqRt_num (t := t) (r := r) (b := b) h with e | ⟨i, rfl, rfl, rfl, rfl, e⟩
  · rw [e]; simp
  · rw [e]; simp
theorem NumAt.sx {c st sc : Addr} {H H' : Hp} {v : V} {t r b : Int} (h : NumAt c H v t r b) (hs : StA H st sc) (s : SameX st H H') : NumAt c H' v t r b := h.imp (·.sx hs s) id
/-- != of plain things -/
def rNeU (K : PySem.W.Frag) : R2 := fun x y H Q => rNeD K x y H Q ∨ rNeDA x y H Q
theorem op_neU {X : Cx} (hu : X.A.units + 64 < cLine) : OpR X (compareOp .NotEq) (rNeU X.K) := (op_neD hu).or (op_ne_dictA (by omega))
theorem w_neSelf {K : PySem.W.Frag} {H : Hp} {Q : VK} {v : V} (h : (∃ b, v = .bl b) ∨ Selfy H v) (q : Q (.bl false) H) : rNeU K v v H Q := by
  have go : ∀ d, Dp K H v d → SeqAt.shaped d = true → rNeU K v v H Q := fun d hd sd => .inl ⟨d, d, hd, hd, sd, sd, by rw [SeqAt.eqv_refl d (SeqAt.canLay_of_shaped sd)]; exact q⟩
  rcases h with ⟨b, rfl⟩ | h
  · exact go _ (.bl b) (by cases b <;> decide +kernel)
  cases h with
  | non => exact go _ .non (by decide +kernel)
  | int i => exact go _ (.int i) rfl
  | str s h => exact go _ (.str s) h
  | lst a ns e => exact go _ (.lst (SqL.of e) (dp_ints ns)) (shaped_intsL ns)
  | tup a ns e => exact go _ (.tup (SqT.of e) (dp_ints ns)) (shaped_ints ns)
  | dK a e => exact .inr ⟨a, a, [], [], rfl, rfl, e, e, rfl, (fun _ h => nomatch h), q⟩
theorem T3.sx {H H' : Hp} {st sc u : Addr} {t r b : Int} (h : T3 H u t r b) (hs : StA H st sc) (s : SameX st H H') : T3 H' u t r b := s _ _ (hs.ne h (by intro xs z; cases z)) h
theorem NumAt.isB {c : Addr} {H : Hp} {v : V} {t r b : Int} (h : NumAt c H v t r b) : isB v = false := by
  rcases h with ⟨a, dx, rfl, e⟩ | ⟨i, rfl, _⟩ <;> rfl
theorem k_eq0 {mg : Str → Option Value} (T : Txt Z mg) {H : Hp} {Q : VK} {E : XK} {o : V} {t' r' b' : Int} (hn : NumAt Z.c_Root H o t' r' b') (sm : Sm t' r' b') (z : t' = 0 ∧ r' = 0) (q : Q (.bl true) H) : rOwnC Z.K Z.c_Root (sp_Root_eq Z) E o (.int 0) H Q ∨ rEq o (.int 0) H Q := by
  rcases hn with hn | ⟨i, rfl, h1, h2, h3⟩
  · refine .inl (k_eqC T hn (.int 0) ?_)
    have : eqRt H t' r' b' (.int 0) = true := by
      show (decide (r' = 0) && (decide (b' = 1) && decide (t' = 0))) = true
      rw [← Bool.decide_and, ← Bool.decide_and]
      exact decide_eq_true ((sm_zero sm).mpr z)
    rw [this]
    exact q
  · refine .inr (w_eq rfl ?_)
    have : i = 0 := by omega
    subst this
    exact q
theorem k_eqS {mg : Str → Option Value} (T : Txt Z mg) {H : Hp} {Q : VK} {E : XK} {x y : V} {t r b : Int} (hx : NumAt Z.c_Root H x t r b) (hy : RootAt Z.c_Root H y t r b) (q : Q (.bl true) H) : rOwnC Z.K Z.c_Root (sp_Root_eq Z) E x y H Q ∨ rOwnR Z.K Z.c_Root (sp_Root_eq Z) E x y H Q := by
  have hn : NumAt Z.c_Root H y t r b := .inl hy
  rcases hx with hx | ⟨i, rfl, h1, h2, h3⟩
  · exact .inl (k_eqC T hx hy.th (by rw [eqRt_self hn]; exact q))
  · refine .inr (k_eqR T hy (.inl ⟨i, rfl⟩) ?_)
    rw [eqRt_self (.inr ⟨i, rfl, h1, h2, h3⟩ : NumAt Z.c_Root H (.int i) t r b)]
    exact q
theorem Selfy.same {H H' : Hp} {v : V} (h : Selfy H v) (s : Same H H') : Selfy H' v := by
  cases h with
  | non => exact .non
  | int i => exact .int i
  | str x h => exact .str x h
  | lst a ns e => exact .lst a ns (s _ _ e)
  | tup a ns e => exact .tup a ns (s _ _ e)
  | dK a e => exact .dK a (s _ _ e)
theorem low_zero {t r b : Int} (hb : b ≠ 0) : (lowT t r b = 0 ∧ lowR t r b = 0) ↔ (t = 0 ∧ r = 0) := by
  obtain ⟨s, hs, e1, e2, _⟩ := (low_is (t := t) (r := r) hb).s
  constructor
  · rintro ⟨h1, h2⟩
    rw [h1] at e1; rw [h2] at e2
    exact ⟨by omega, by omega⟩
  · rintro ⟨h1, h2⟩
    exact ⟨(Int.mul_eq_zero.mp (e1.symm.trans h1)).resolve_right hs, (Int.mul_eq_zero.mp (e2.symm.trans h2)).resolve_right hs⟩
theorem LowAt.eq {c : Addr} {H : Hp} {v : V} {t r b t' r' b' : Int} (h : LowAt c H v t r b) (e1 : t = t') (e2 : r = r') (e3 : b = b') : LowAt c H v t' r' b' := by rw [← e1, ← e2, ← e3]; exact h
theorem sgn_scale {t r k : Int} (hk : 0 < k) : sgn (t * k) (r * k) = sgn t r := by
  have z : ∀ x : Int, (x * k = 0) = (x = 0) := fun x => propext ⟨fun h => (Int.mul_eq_zero.mp h).resolve_right (by omega), fun h => by rw [h, Int.zero_mul]⟩
  have p : ∀ x : Int, (0 ≤ x * k) = (0 ≤ x) := fun x => propext ⟨fun h => by
    rcases Int.lt_or_le x 0 with q | q
    · have := Int.mul_neg_of_neg_of_pos q hk; omega
    · exact q, fun h => Int.mul_nonneg h (by omega)⟩
  have n : ∀ x : Int, (x * k ≤ 0) = (x ≤ 0) := fun x => propext ⟨fun h => by
    rcases Int.lt_or_le 0 x with q | q
    · have := Int.mul_pos q hk; omega
    · exact q, fun h => Int.mul_nonpos_of_nonpos_of_nonneg h (by omega)⟩
  have g : ∀ x : Int, (0 < x * k) = (0 < x) := fun x => propext ⟨fun h => by
    rcases Int.lt_or_le 0 x with q | q
    · exact q
    · have := Int.mul_nonpos_of_nonpos_of_nonneg q (show 0 ≤ k by omega); omega, fun h => Int.mul_pos h hk⟩
  have kk : 0 < k * k := Int.mul_pos hk hk
  have m : (t * k * (t * k) > 2 * (r * k) * (r * k)) = (t * t > 2 * r * r) := by
    have e1 : t * k * (t * k) = (t * t) * (k * k) := by grind
    have e2 : 2 * (r * k) * (r * k) = (2 * r * r) * (k * k) := by grind
    rw [e1, e2]
    exact propext ⟨fun h => Int.lt_of_mul_lt_mul_right h (by omega), fun h => Int.mul_lt_mul_of_pos_right h kk⟩
  unfold sgn
  simp only [z, p, n, g, m]
theorem low_pos {t r b : Int} (hb : 0 < b) : ∃ s : Int, 0 < s ∧ t = lowT t r b * s ∧ r = lowR t r b * s ∧ b = lowB t r b * s := by
  have l := low_is (t := t) (r := r) (show b ≠ 0 by omega)
  obtain ⟨s, hs, e1, e2, e3⟩ := l.s
  refine ⟨s, ?_, e1, e2, e3⟩
  rcases Int.lt_trichotomy s 0 with q | q | q
  · have := Int.mul_neg_of_pos_of_neg l.pos q; omega
  · exact absurd q hs
  · exact q
theorem minus_sgn {t1 r1 b1 t2 r2 b2 : Int} (h1 : 0 < b1) (h2 : 0 < b2) : sgn (minus.t (lowT t1 r1 b1) (lowR t1 r1 b1) (lowB t1 r1 b1) (lowT t2 r2 b2) (lowR t2 r2 b2) (lowB t2 r2 b2)) (minus.r (lowT t1 r1 b1) (lowR t1 r1 b1) (lowB t1 r1 b1) (lowT t2 r2 b2) (lowR t2 r2 b2) (lowB t2 r2 b2)) = sgn (minus.t t1 r1 b1 t2 r2 b2) (minus.r t1 r1 b1 t2 r2 b2) := by
  obtain ⟨s, hs, e1, e2, e3⟩ := low_pos (t := t1) (r := r1) h1
  obtain ⟨s', hs', e1', e2', e3'⟩ := low_pos (t := t2) (r := r2) h2
  generalize lowT t1 r1 b1 = x at *
  generalize lowR t1 r1 b1 = y at *
  generalize lowB t1 r1 b1 = z at *
  generalize lowT t2 r2 b2 = x' at *
  generalize lowR t2 r2 b2 = y' at *
  generalize lowB t2 r2 b2 = z' at *
  subst e1 e2 e3 e1' e2' e3'
  have k1 : minus.t (x * s) (y * s) (z * s) (x' * s') (y' * s') (z' * s') = minus.t x y z x' y' z' * (s * s') := by unfold minus; dsimp only; grind
  have k2 : minus.r (x * s) (y * s) (z * s) (x' * s') (y' * s') (z' * s') = minus.r x y z x' y' z' * (s * s') := by unfold minus; dsimp only; grind
  rw [k1, k2, sgn_scale (Int.mul_pos hs hs')]
-- needs W9
local macro_rules | `(tactic| walk_at "s") => `(tactic| first | with_reducible refine L2.My.w_chain ?_ | with_reducible refine L2.My.w_lcTT ?_ | with_reducible refine L2.My.w_forZT ?_ | with_reducible refine L2.My.w_bm ?_)
/-- four ints -/
structure C4 where
  a : Int
  b : Int
  c : Int
  d : Int
def C4.vs (c : C4) : List V := [.int c.a, .int c.b, .int c.c, .int c.d]
def CorAt (H : Hp) (v : V) (c : C4) : Prop := ∃ p, v = .ref p ∧ H p = some (.tup [.int c.a, .int c.b, .int c.c, .int c.d])
theorem CorAt.same {H H' : Hp} {v : V} {c : C4} (h : CorAt H v c) (s : Same H H') : CorAt H' v c := by
  obtain ⟨p, rfl, e⟩ := h
  exact ⟨p, rfl, s _ _ e⟩
theorem CorAt.kps {H H' : Hp} {v : V} {c : C4} (h : CorAt H v c) (s : Kps H H') : CorAt H' v c := by
  obtain ⟨p, rfl, e⟩ := h
  exact ⟨p, rfl, s.tup e⟩
def isCor (xs : List V) : Bool := decide (xs.length = 4) && xs.all isI
/-- a thing that is no corner -/
def BadCor (Z : Zs) (H : Hp) (v : V) : Prop := (Plain H v ∧ isTu H v = false) ∨ ∃ p xs, v = .ref p ∧ H p = some (.tup xs) ∧ xs.length ≤ 500 ∧ (∀ x ∈ xs, ThI Z H x) ∧ isCor xs = false
theorem isTu_same {H H' : Hp} {v : V} (h : Plain H v) (s : Same H H') : isTu H' v = isTu H v := by
  cases h with
  | lst a xs e => rw [isTu_lst e, isTu_lst (s _ _ e)]
  | tup a xs e => rw [isTu_tup e, isTu_tup (s _ _ e)]
  | dK a xs e => rw [isTu_dK e, isTu_dK (s _ _ e)]
  | _ => rfl
theorem BadCor.same {Z : Zs} {H H' : Hp} {v : V} (h : BadCor Z H v) (s : Same H H') : BadCor Z H' v := by
  rcases h with ⟨a, b⟩ | ⟨p, xs, rfl, e, l, x, c⟩
  · exact .inl ⟨a.same s, (isTu_same a s).trans b⟩
  · exact .inr ⟨p, xs, rfl, s _ _ e, l, fun y hy => thI_same (x y hy) s, c⟩
/-- an own error of the class C with o in its field f -/
def ErX (C : Addr) (f : Str) (o : V) (H : Hp) (E : XK) : Prop := ∀ d H', H d = none → Same H H' → H' d = some (.xd [(f, o)]) → E (.ref C) (some d) H'
theorem ErX.same {C : Addr} {f : Str} {o : V} {H H' : Hp} {E : XK} (h : ErX C f o H E) (s : Same H H') : ErX C f o H' E := fun d H2 hd s2 e => h d H2 (s.free hd) (s.trans s2) e
theorem dec_len {n k : Nat} : decide (V.int ((n : Nat) : Int) = V.int (k : Int)) = decide (n = k) := decide_eq_decide.mpr ⟨fun h => by injection h with h; omega, fun h => by rw [h]⟩
abbrev s_is_corner : Stmt := top 23
theorem sc_is_corner : FnScope ["thing", "part"] ["thing"] (defScope s_is_corner) := ⟨rfl, rfl, rfl, by decide +kernel, rfl, by decide +kernel, by decide +kernel⟩

def sp_is_corner (Z : Zs) : Sp := fun vs H Q E =>
  ∃ v, vs = [v] ∧ ((Plain H v ∧ isTu H v = false ∧ Q (.bl false) H) ∨ ∃ p xs, v = .ref p ∧ H p = some (.tup xs) ∧ xs.length ≤ 500 ∧ (∀ x ∈ xs, ThI Z H x) ∧ ∀ H', Same H H' → Q (.bl (isCor xs)) H')
theorem ok_is_corner (T : Txt Z mg) (h_is_integral : Has P w Z.K mg base "is_integral" 1 ["thing"] (sp_is_integral Z)) (D : AtF Z.K mg "is_corner" "is_corner" s_is_corner ["thing"]) : Has P w Z.K mg base "is_corner" 2 ["thing"] (sp_is_corner Z) := by
  refine D.ok sc_is_corner (fun vs H Q E h => ?_) (fun cdv A outer s H vs Q E hr h => ?_)
  · obtain ⟨v, rfl, _⟩ := h
    rfl
  · refine ⟨_, (pss_one (ps_ret (pe_and (pe_callB call_isi rfl T.n_isinstance (by decide +kernel) (pa_cons (pv 0) (pa_cons (pe_bltn (v := .ty "tuple") rfl T.n_tuple (by decide +kernel) rfl) pa_nil))) (pe_and (pe_cmpR op_eq (pe_callB cn_len rfl T.n_len (by decide +kernel) (pa_cons (pv 0) pa_nil)) pe_int (nomark _)) (pe_one (pe_callB (cr_all rfl) rfl T.n_all (by decide +kernel) (pa_cons (pe_lc (own := [("part", 1)]) (g := gName 1) rfl sc_is_corner.nd (pi_tup (pv 0)) (blkOk_by (N := ["thing", "part"]) (sc := defScope s_is_corner) (by decide +kernel)) (fun _ _ _ _ _ => pg_name (i := 1) sc_is_corner.nd rfl (Or.inl rfl)) (fun _ _ _ _ _ => pts_nil) (fun _ _ _ _ _ => (pe_h (E := fun _ => E0) h_is_integral hr pa0 (pa_cons (pv 1) pa_nil)))) pa_nil))))))), ?_⟩
    try simp only [cxOf]
    obtain ⟨v, rfl, ⟨pl, nt, q⟩ | ⟨p, xs, rfl, ha, hl, hx, q⟩⟩ := h
    · obtain ⟨t, ty, _, _, k⟩ := pl.ty (K := Z.K)
      rw [nt] at k
      walk_at "W"
      refine w_isi ty k ?_
      walk_at "W"
      exact q
    · obtain ⟨t, ty, _, _, k⟩ := (Plain.tup p xs ha).ty (K := Z.K)
      rw [isTu_tup ha] at k
      walk_at "W"
      refine w_isi ty k ?_
      walk_at "W"
      refine w_lenT (SqT.of ha) ?_
      walk_at "W"
      rw [show decide (V.int ((xs.length : Nat) : Int) = V.int 4) = decide (xs.length = 4) from dec_len (k := 4)]
      cases e : decide (xs.length = 4)
      · walk_at "W"
        have q1 := q H (Same.refl _)
        unfold isCor at q1
        rw [e] at q1
        exact q1
      · walk_at "W"
        refine k_lcFlags (f := isI) ha hl (fun _ => rfl) (fun x H' hxm s N k => ?_) (fun D H' hD s e2 => ?_)
        · walk_at "W"
          exact ⟨x, rfl, thI_same (hx x hxm) s, k⟩
        · walk_at "W"
          refine w_all (SqL.of e2) ?_
          have q1 := q H' s
          unfold isCor at q1
          rw [e] at q1
          rw [show (xs.map isI).all id = xs.all isI from by rw [List.all_map]; rfl]
          exact q1
abbrev s_check_corner : Stmt := top 24
theorem sc_check_corner : FnScope ["corner"] ["corner"] (defScope s_check_corner) := ⟨rfl, rfl, rfl, by decide +kernel, rfl, by decide +kernel, by decide +kernel⟩

def sp_check_corner (Z : Zs) : Sp := fun vs H Q E =>
  ∃ v, vs = [v] ∧ ((∃ c, CorAt H v c) ∧ (∀ H', Same H H' → Q .non H') ∨ BadCor Z H v ∧ ErX Z.c_BadCorner "corner" v H E)
theorem ok_check_corner (T : Txt Z mg) (h_is_corner : Has P w Z.K mg base "is_corner" 2 ["thing"] (sp_is_corner Z)) (h_BadCorner : HasX P w Z.K mg base "BadCorner" Z.c_BadCorner 1 ["self", "corner"] (sp_BadCorner_init Z)) (D : AtF Z.K mg "check_corner" "check_corner" s_check_corner ["corner"]) : Has P w Z.K mg base "check_corner" 3 ["corner"] (sp_check_corner Z) := by
  refine D.ok sc_check_corner (fun vs H Q E h => ?_) (fun cdv A outer s H vs Q E hr h => ?_)
  · obtain ⟨v, rfl, _⟩ := h
    rfl
  · refine ⟨_, (pss_one (ps_if (pt_not (pt_val (pe_h (E := ED E) h_is_corner hr (paW (takes_of rfl rfl rfl rfl)) (pa_cons (pv 0) pa_nil)))) (pss_one (ps_raise rfl (takes_of rfl rfl rfl rfl) (pm_h T.x_BadCorner h_BadCorner hr (pa_cons (pv 0) pa_nil)))) pss_nil)), ?_⟩
    try simp only [cxOf]
    obtain ⟨v, rfl, ⟨⟨c, p, rfl, hp⟩, q⟩ | ⟨b, er⟩⟩ := h
    · walk_at "W"
      refine ⟨_, rfl, .inr ⟨p, _, rfl, hp, by simp, fun x hx => ?_, fun H' s => ?_⟩⟩
      · simp only [List.mem_cons, List.not_mem_nil, or_false] at hx
        rcases hx with rfl | rfl | rfl | rfl <;> exact (Plain.int _).thI
      · walk_at "W"
        exact q H' s
    · walk_at "W"
      rcases b with ⟨pl, nt⟩ | ⟨p, xs, rfl, hp, hl, hx, ic⟩
      · refine ⟨_, rfl, .inl ⟨pl, nt, ?_⟩⟩
        walk_at "W"
        exact k_mkO fun d H2 hd s4 e4 => er d H2 hd s4 e4
      · refine ⟨_, rfl, .inr ⟨p, xs, rfl, hp, hl, hx, fun H' s => ?_⟩⟩
        rw [ic]
        walk_at "W"
        exact k_mkO fun d H2 hd s4 e4 => er d H2 (s.free hd) (s.trans s4) e4
def C4.plus (c : C4) (k s : Int) : C4 := if k = 0 then ⟨c.a + s, c.b, c.c, c.d⟩ else if k = 1 then ⟨c.a, c.b + s, c.c, c.d⟩ else if k = 2 then ⟨c.a, c.b, c.c + s, c.d⟩ else ⟨c.a, c.b, c.c, c.d + s⟩
def stepC (c : C4) (d m : Int) : C4 := c.plus (d % 4) (if d < 4 then m else -m)
theorem dir_cases {d : Int} (h0 : 0 ≤ d) (h7 : d ≤ 7) : d = 0 ∨ d = 1 ∨ d = 2 ∨ d = 3 ∨ d = 4 ∨ d = 5 ∨ d = 6 ∨ d = 7 := by omega
abbrev s_step : Stmt := top 25
theorem sc_step : FnScope ["corner", "direction", "many", "parts", "at"] ["corner", "direction", "many"] (defScope s_step) := ⟨rfl, rfl, rfl, by decide +kernel, rfl, by decide +kernel, by decide +kernel⟩

def sp_step (Z : Zs) : Sp := fun vs H Q E =>
  ∃ v c d m, vs = [v, .int d, .int m] ∧ CorAt H v c ∧ 0 ≤ d ∧ d ≤ 7 ∧ ∀ v' H', Same H H' → CorAt H' v' (stepC c d m) → Q v' H'
theorem ok_step (T : Txt Z mg)  (D : AtF Z.K mg "step" "step" s_step ["corner", "direction", "many"]) : Has P w Z.K mg base "step" 1 ["corner", "direction", "many"] (sp_step Z) := by
  refine D.ok sc_step (fun vs H Q E h => ?_) (fun cdv A outer s H vs Q E hr h => ?_)
  · obtain ⟨v, c, d, m, rfl, _⟩ := h
    rfl
  · refine ⟨_, (pss_cons (ps_set (i := 3) sc_step.nd rfl (Or.inl rfl) (pe_callTy cn_list rfl T.n_list (by decide +kernel) (pa_cons (pv 0) pa_nil)))
      (pss_cons (ps_set (i := 4) sc_step.nd rfl (Or.inl rfl) (pe_op op_mod (pv 1) pe_int))
      (pss_cons (ps_if (pt_cmpR op_lt (pv 1) pe_int (nomark _)) (pss_one (ps_asg (pe_op op_add (pe_ix ix_seq (pv 3) (pv 4) (fun _ _ => rfl)) (pv 2)) (pg_sub (pv 3) (pv 4) set_list))) (pss_one (ps_asg (pe_op op_sub (pe_ix ix_seq (pv 3) (pv 4) (fun _ _ => rfl)) (pv 2)) (pg_sub (pv 3) (pv 4) set_list))))
      (pss_one (ps_ret (pe_callTy cn_tuple rfl T.n_tuple (by decide +kernel) (pa_cons (pv 3) pa_nil))))))), ?_⟩
    try simp only [cxOf]
    obtain ⟨v, c, d, m, rfl, ⟨p, rfl, hp⟩, h0, h7, q⟩ := h
    walk_at "W"
    refine w_listT (SqT.of hp) fun l H1 hl s1 e1 => ?_
    have fin : ∀ {x y z u : Int} {H2 : Hp}, SameX l H1 H2 → H2 l = some (.lst [.int x, .int y, .int z, .int u]) → (⟨x, y, z, u⟩ : C4) = stepC c d m → rTupOf Z.K [.ref l] H2 Q := fun {x y z u H2} s2 e2 e => by
      refine w_tupL e2 fun t H3 ht s3 e3 => ?_
      have S : Same H H3 := fun b o eb => s3 _ _ (s2 b o (ne_of_none eb hl) (s1 _ _ eb))
      refine q _ H3 S ?_
      rw [← e]
      exact ⟨t, rfl, e3⟩
    walk_at "W"
    rcases dir_cases h0 h7 with rfl | rfl | rfl | rfl | rfl | rfl | rfl | rfl
    all_goals
      walk_at "W"
      refine w_setL e1 rfl fun H2 s2 e2 => ?_
      walk_at "W"
      exact fin s2 e2 (by simp [stepC, C4.plus, Int.sub_eq_add_neg])
def turn1 (c : C4) : C4 := ⟨-c.d, c.a, c.b, c.c⟩
def turnC : Nat → C4 → C4
  | 0, c => c
  | n + 1, c => turn1 (turnC n c)
def mirC (c : C4) : C4 := ⟨c.a, -c.d, -c.c, -c.b⟩
def greC (c : C4) : C4 := ⟨c.a + c.b - c.d, c.b + c.a + c.c, c.c + c.b + c.d, c.d - c.a + c.c⟩
def lesC (c : C4) : C4 := ⟨c.b - c.d - c.a, c.a + c.c - c.b, c.b + c.d - c.c, c.c - c.a - c.d⟩
def spCor (Z : Zs) (f : C4 → C4) : Sp := fun vs H Q E => ∃ v, vs = [v] ∧ ((∃ c, CorAt H v c ∧ ∀ v' H', Same H H' → CorAt H' v' (f c) → Q v' H') ∨ BadCor Z H v ∧ ErX Z.c_BadCorner "corner" v H E)
/-- a corner told otherwise: as a list or a tuple -/
def Four (H : Hp) (p : Addr) (c : C4) : Prop := H p = some (.lst [.int c.a, .int c.b, .int c.c, .int c.d]) ∨ H p = some (.tup [.int c.a, .int c.b, .int c.c, .int c.d])
theorem Four.same {H H' : Hp} {p : Addr} {c : C4} (h : Four H p c) (s : Same H H') : Four H' p c := h.imp (s _ _) (s _ _)
theorem Four.ix {K : PySem.W.Frag} {H : Hp} {p : Addr} {c : C4} {i : Int} {v : V} {Q : VK} (h : Four H p c) (e : atI [V.int c.a, .int c.b, .int c.c, .int c.d] i = some v) (q : Q v H) : rIx K (.ref p) (.int i) H Q := by
  rcases h with h | h
  · exact w_ixL h e q
  · exact w_ixT h e q
theorem w_neSame {K : PySem.W.Frag} {H : Hp} {Q : VK} {x y : V} {c : C4} (h1 : CorAt H x c) (h2 : CorAt H y c) (q : Q (.bl false) H) : rNeD K x y H Q := by
  obtain ⟨p, rfl, e1⟩ := h1
  obtain ⟨p', rfl, e2⟩ := h2
  refine ⟨.tuple [.int c.a, .int c.b, .int c.c, .int c.d], .tuple [.int c.a, .int c.b, .int c.c, .int c.d], .tup (SqT.of e1) (.cons (.int _) (.cons (.int _) (.cons (.int _) (.cons (.int _) .nil)))), .tup (SqT.of e2) (.cons (.int _) (.cons (.int _) (.cons (.int _) (.cons (.int _) .nil)))), rfl, rfl, ?_⟩
  rw [SeqAt.eqv_refl _ rfl]
  exact q
theorem w_eqSame {K : PySem.W.Frag} {H : Hp} {Q : VK} {x y : V} {c : C4} (h1 : CorAt H x c) (h2 : CorAt H y c) (q : Q (.bl true) H) : rEqD K x y H Q := by
  obtain ⟨p, rfl, e1⟩ := h1
  obtain ⟨p', rfl, e2⟩ := h2
  refine ⟨.tuple [.int c.a, .int c.b, .int c.c, .int c.d], .tuple [.int c.a, .int c.b, .int c.c, .int c.d], .tup (SqT.of e1) (.cons (.int _) (.cons (.int _) (.cons (.int _) (.cons (.int _) .nil)))), .tup (SqT.of e2) (.cons (.int _) (.cons (.int _) (.cons (.int _) (.cons (.int _) .nil)))), rfl, rfl, ?_⟩
  rw [SeqAt.eqv_refl _ rfl]
  exact q
def conj (c : C4) : C4 := ⟨c.a, c.d, -c.c, c.b⟩
/-- a point of told parts: the place of c, each number's parts times a number -/
def LedAt (H : Hp) (u : Addr) (c : C4) (n : Nat) : Prop := ∃ p p' s s', H u = some (.tup [.ref p, .ref p']) ∧ T3 H p (2 * c.a * s) ((c.b - c.d) * s) (2 * s) ∧ T3 H p' (2 * c.c * s') ((c.b + c.d) * s') (2 * s') ∧ s ≠ 0 ∧ s' ≠ 0 ∧ Bw n s ∧ Bw n s'
theorem LedAt.same {H H' : Hp} {u : Addr} {c : C4} {n : Nat} (h : LedAt H u c n) (s : Same H H') : LedAt H' u c n := by
  obtain ⟨p, p', s1, s2, a, b, d, e⟩ := h
  exact ⟨p, p', s1, s2, s _ _ a, s _ _ b, s _ _ d, e⟩
theorem LedAt.mono {H : Hp} {u : Addr} {c : C4} {n m : Nat} (h : LedAt H u c n) (l : n ≤ m) : LedAt H u c m := by
  obtain ⟨p, p', s1, s2, a, b, d, e, f, g, k⟩ := h
  exact ⟨p, p', s1, s2, a, b, d, e, f, g.mono l, k.mono l⟩
theorem led_of {H : Hp} {u p p' : Addr} {c : C4} {n : Nat} {s s' t r b t' r' b' : Int} (h : H u = some (.tup [.ref p, .ref p'])) (h1 : T3 H p t r b) (h2 : T3 H p' t' r' b') (e1 : t = 2 * c.a * s) (e2 : r = (c.b - c.d) * s) (e3 : b = 2 * s) (e4 : t' = 2 * c.c * s') (e5 : r' = (c.b + c.d) * s') (e6 : b' = 2 * s')
    (n1 : s ≠ 0) (n2 : s' ≠ 0) (w1 : Bw n s) (w2 : Bw n s') : LedAt H u c n := by
  subst e1 e2 e3 e4 e5 e6
  exact ⟨p, p', s, s', h, h1, h2, n1, n2, w1, w2⟩
theorem led_one {H : Hp} {u p p' : Addr} {c : C4} {t r t' r' : Int} (h : H u = some (.tup [.ref p, .ref p'])) (h1 : T3 H p t r 2) (h2 : T3 H p' t' r' 2) (e1 : t = 2 * c.a) (e2 : r = c.b - c.d) (e4 : t' = 2 * c.c) (e5 : r' = c.b + c.d) : LedAt H u c 1 :=
  led_of h h1 h2 (s := 1) (s' := 1) (by omega) (by omega) (by omega) (by omega) (by omega) (by omega) (by decide) (by decide) Bw.one Bw.one

/-- the place of c, as the laws write it -/
def PlcAt (H : Hp) (u : Addr) (c : C4) : Prop := ∃ p p', H u = some (.tup [.ref p, .ref p']) ∧ T3 H p (2 * c.a) (c.b - c.d) 2 ∧ T3 H p' (2 * c.c) (c.b + c.d) 2
theorem PlcAt.same {H H' : Hp} {u : Addr} {c : C4} (h : PlcAt H u c) (s : Same H H') : PlcAt H' u c := by
  obtain ⟨p, p', a, b, d⟩ := h
  exact ⟨p, p', s _ _ a, s _ _ b, s _ _ d⟩
theorem PlcAt.led {H : Hp} {u : Addr} {c : C4} (h : PlcAt H u c) : LedAt H u c 1 := by
  obtain ⟨p, p', a, b, d⟩ := h
  exact led_one a b d rfl rfl rfl rfl
abbrev s__law_star : Stmt := top 50
theorem sc__law_star : FnScope ["corner"] ["corner"] (defScope s__law_star) := ⟨rfl, rfl, rfl, by decide +kernel, rfl, by decide +kernel, by decide +kernel⟩

def sp__law_star (Z : Zs) : Sp := fun vs H Q E =>
  ∃ p c, vs = [.ref p] ∧ Four H p c ∧ ∀ u H', Same H H' → PlcAt H' u (conj c) → Q (.ref u) H'
theorem ok__law_star (T : Txt Z mg)  (D : AtF Z.K mg "_law_star" "_law_star" s__law_star ["corner"]) : Has P w Z.K mg base "_law_star" 1 ["corner"] (sp__law_star Z) := by
  refine D.ok sc__law_star (fun vs H Q E h => ?_) (fun cdv A outer s H vs Q E hr h => ?_)
  · obtain ⟨p, c, rfl, _⟩ := h
    rfl
  · refine ⟨_, (pss_one (ps_ret (pe_tup (pa_cons (pe_tup (pa_cons (pe_op op_mulS pe_int (pe_ix ix_seq (pv 0) pe_int (fun _ _ => rfl))) (pa_cons (pe_op op_sub (pe_ix ix_seq (pv 0) pe_int (fun _ _ => rfl)) (pe_ix ix_seq (pv 0) pe_int (fun _ _ => rfl))) (pa_cons pe_int pa_nil)))) (pa_cons (pe_tup (pa_cons (pe_op op_mulS (pe_un un_neg pe_int) (pe_ix ix_seq (pv 0) pe_int (fun _ _ => rfl))) (pa_cons (pe_op op_add (pe_ix ix_seq (pv 0) pe_int (fun _ _ => rfl)) (pe_ix ix_seq (pv 0) pe_int (fun _ _ => rfl))) (pa_cons pe_int pa_nil)))) pa_nil))))), ?_⟩
    try simp only [cxOf]
    obtain ⟨p, c, rfl, h, q⟩ := h
    repeat (first | walk_at "s" | refine h.ix rfl ?_)
    refine k_tup rfl fun u1 H1 hu1 s1 e1 => ?_
    have h := h.same s1
    repeat (first | walk_at "s" | refine h.ix rfl ?_)
    refine k_tup rfl fun u2 H2 hu2 s2 e2 => ?_
    walk_at "W"
    refine k_tup rfl fun u3 H3 hu3 s3 e3 => ?_
    have e2 := s3 _ _ e2
    rw [show -2 * c.c = 2 * (conj c).c from by show -2 * c.c = 2 * -c.c; omega, show c.b + c.d = (conj c).b + (conj c).d from by show c.b + c.d = c.d + c.b; omega] at e2
    exact q u3 H3 (s1.trans (s2.trans s3)) ⟨u1, u2, e3, s3 _ _ (s2 _ _ e1), e2⟩
def C4.bw (n : Nat) (c : C4) : Prop := Bw n c.a ∧ Bw n c.b ∧ Bw n c.c ∧ Bw n c.d
theorem len4 {ns : List Int} (h : ns.length = 4) : ∃ a b c d, ns = [a, b, c, d] := by
  match ns, h with
  | [a, b, c, d], _ => exact ⟨a, b, c, d, rfl⟩
theorem k_between' {st sc : Addr} {lo hi : Int} {H : Hp} {Q : VK} {E : XK} (hs : StA H st sc) (h1 : lo ≤ hi) (h2 : (hi - lo + 1).natAbs ≤ 10 ^ 30) (q : ∀ n H', lo ≤ n → n ≤ hi → SameX st H H' → StA H' st sc → Q (.int n) H') : sp__law_between Z [.ref st, .int lo, .int hi] H Q E :=
  ⟨st, sc, lo, hi, rfl, hs, h1, Nat.lt_of_le_of_lt h2 (by decide), q⟩
theorem k_draw' {st sc : Addr} {many : Int} {H : Hp} {Q : VK} {E : XK} (hs : StA H st sc) (h1 : 0 < many) (h2 : Nat.blt many.natAbs 1000000 = true) (q : ∀ n H', 0 ≤ n → n < many → SameX st H H' → StA H' st sc → Q (.int n) H') : sp__law_draw Z [.ref st, .int many] H Q E :=
  ⟨st, sc, many, rfl, hs, h1, Nat.lt_of_lt_of_le (by simpa using h2 : many.natAbs < 1000000) (by decide), q⟩
def unitC (d : Int) : C4 := stepC ⟨0, 0, 0, 0⟩ d 1
theorem unit_bw {d : Int} (h0 : 0 ≤ d) (h7 : d ≤ 7) : C4.bw 1 (unitC d) := by
  have z := Bw.zero
  have o := Bw.one
  have m : Bw 1 (-1) := Bw.one.neg
  rcases dir_cases h0 h7 with rfl | rfl | rfl | rfl | rfl | rfl | rfl | rfl
  · exact ⟨o, z, z, z⟩
  · exact ⟨z, o, z, z⟩
  · exact ⟨z, z, o, z⟩
  · exact ⟨z, z, z, o⟩
  · exact ⟨m, z, z, z⟩
  · exact ⟨z, m, z, z⟩
  · exact ⟨z, z, m, z⟩
  · exact ⟨z, z, z, m⟩
theorem unit_add {d : Int} (h0 : 0 ≤ d) (h7 : d ≤ 7) (c : C4) : (stepC c d 1).a = c.a + (unitC d).a ∧ (stepC c d 1).b = c.b + (unitC d).b ∧ (stepC c d 1).c = c.c + (unitC d).c ∧ (stepC c d 1).d = c.d + (unitC d).d := by
  rcases dir_cases h0 h7 with rfl | rfl | rfl | rfl | rfl | rfl | rfl | rfl <;> (simp [unitC, stepC, C4.plus])
abbrev s__law_corner : Stmt := top 56
theorem sc__law_corner : FnScope ["state", "size", "most", "k"] ["state"] (defScope s__law_corner) := ⟨rfl, rfl, rfl, by decide +kernel, rfl, by decide +kernel, by decide +kernel⟩

def sp__law_corner (Z : Zs) : Sp := fun vs H Q E =>
  ∃ st sc, vs = [.ref st] ∧ StA H st sc ∧ ∀ u (c : C4) H', SameX st H H' → StA H' st sc → H' u = some (.tup [.int c.a, .int c.b, .int c.c, .int c.d]) → C4.bw 84 c → Q (.ref u) H'
theorem ok__law_corner (T : Txt Z mg) (h__law_between : Has P w Z.K mg base "_law_between" 3 ["state", "least", "most"] (sp__law_between Z)) (h__law_draw : Has P w Z.K mg base "_law_draw" 2 ["state", "many"] (sp__law_draw Z)) (D : AtF Z.K mg "_law_corner" "_law_corner" s__law_corner ["state"]) : Has P w Z.K mg base "_law_corner" 4 ["state"] (sp__law_corner Z) := by
  refine D.ok sc__law_corner (fun vs H Q E h => ?_) (fun cdv A outer s H vs Q E hr h => ?_)
  · obtain ⟨st, sc, rfl, _⟩ := h
    rfl
  · refine ⟨_, (pss_cons (ps_set (i := 1) sc__law_corner.nd rfl (Or.inl rfl) (pe_h (E := ED E) h__law_draw hr (paW (takes_of rfl rfl rfl rfl)) (pa_cons (pv 0) (pa_cons pe_int pa_nil))))
      (pss_cons (ps_set (i := 2) sc__law_corner.nd rfl (Or.inr rfl) pe_int)
      (C8.pss_cut (ps_if (pt_cmpR op_eq (pv 1) pe_int (nomark _)) (pss_one (ps_set (i := 2) sc__law_corner.nd rfl (Or.inr rfl) pe_int)) pss_nil)
      (C8.pss_cut (ps_if (pt_cmpR op_eq (pv 1) pe_int (nomark _)) (pss_one (ps_set (i := 2) sc__law_corner.nd rfl (Or.inr rfl) (pe_op op_pow pe_int pe_int))) pss_nil)
      (pss_one (ps_ret (pe_callTy cn_tuple rfl T.n_tuple (by decide +kernel) (pa_cons (pe_lc (own := [("k", 3)]) (g := gName 3) rfl sc__law_corner.nd (pi_range1 rfl T.n_range (pa_cons pe_int pa_nil)) (blkOk_by (N := ["state", "size", "most", "k"]) (sc := defScope s__law_corner) (by decide +kernel)) (fun _ _ _ _ _ => pg_name (i := 3) sc__law_corner.nd rfl (Or.inl rfl)) (fun _ _ _ _ _ => pts_nil) (fun _ _ _ _ _ => (pe_h (E := fun _ => E0) h__law_between hr pa0 (pa_cons (pv 0) (pa_cons (pe_un un_neg (pv 2)) (pa_cons (pv 2) pa_nil)))))) pa_nil)))))))), ?_⟩
    try simp only [cxOf]
    obtain ⟨st, sc, rfl, hs, q⟩ := h
    have e25 : (10 : Int) ^ Int.toNat 25 = 10000000000000000000000000 := by decide
    walk_at "W"
    refine k_draw' hs (by decide) (by decide) fun n H1 n0 n1 x1 hs1 => ?_
    walk_at "W"
    refine w_cut (fun σ' H' => H' = H1 ∧ ∃ m : Int, σ' = [some (.ref st), some (.int n), some (.int m), none] ∧ 0 ≤ m ∧ m ≤ 10 ^ 25) ?_ ?_
    · walk_at "W"
      refine w_ite (fun _ => ?_) (fun _ => ?_)
      · walk_at "W"
        exact ⟨rfl, 1000, rfl, by decide, by decide⟩
      · walk_at "W"
        exact ⟨rfl, 5, rfl, by decide, by decide⟩
    rintro σ' H' ⟨rfl, m, rfl, m0, m1⟩
    walk_at "W"
    refine w_cut (fun σ' H1 => H1 = H' ∧ ∃ m : Int, σ' = [some (.ref st), some (.int n), some (.int m), none] ∧ 0 ≤ m ∧ m ≤ 10 ^ 25) ?_ ?_
    · walk_at "W"
      refine w_ite (fun _ => ?_) (fun _ => ?_)
      · walk_at "W"
        rw [e25]
        exact ⟨rfl, _, rfl, by decide, by decide⟩
      · walk_at "W"
        exact ⟨rfl, m, rfl, m0, m1⟩
    rintro σ' H1 ⟨rfl, m, rfl, m0, m1⟩
    walk_at "W"
    refine k_lcDraw (st := st) (sc := sc) (P := fun z => z.natAbs ≤ 10 ^ 25) (by decide) (by decide) hs1 (fun _ => rfl) (fun z H' hs' _ N k => ?_) (fun D H2 ms e1 e2 e3 e4 hst2 s2 => ?_)
    · walk_at "W"
      exact k_between' hs' (by omega) (by omega) fun n H2 h0 h1 s2 st2 => k n H2 (by omega) s2 st2
    obtain ⟨a, b, c, d, rfl⟩ := len4 e2
    refine w_tupL e1 fun t H3 ht s3 e5 => ?_
    have w : ∀ x ∈ [a, b, c, d], Bw 84 x := fun x hx => bw_of (e3 x hx) (by decide)
    exact q t ⟨a, b, c, d⟩ H3 (x1.trans (s2.trans (Same.x s3))) (hst2.same s3) e5 ⟨w a (by simp), w b (by simp), w c (by simp), w d (by simp)⟩
abbrev s__law_is_corner : Stmt := top 67
theorem sc__law_is_corner : FnScope ["thing", "part"] ["thing"] (defScope s__law_is_corner) := ⟨rfl, rfl, rfl, by decide +kernel, rfl, by decide +kernel, by decide +kernel⟩

def sp__law_is_corner (Z : Zs) : Sp := fun vs H Q E =>
  ∃ v c, vs = [v] ∧ CorAt H v c ∧ Q (.bl true) H
theorem ok__law_is_corner (T : Txt Z mg)  (D : AtF Z.K mg "_law_is_corner" "_law_is_corner" s__law_is_corner ["thing"]) : Has P w Z.K mg base "_law_is_corner" 1 ["thing"] (sp__law_is_corner Z) := by
  refine D.ok sc__law_is_corner (fun vs H Q E h => ?_) (fun cdv A outer s H vs Q E hr h => ?_)
  · obtain ⟨v, c, rfl, _⟩ := h
    rfl
  · refine ⟨_, (pss_cons (ps_if (PW.pt (pw_or (pt_not (pt_val (pe_callB call_isi rfl T.n_isinstance (by decide +kernel) (pa_cons (pv 0) (pa_cons (pe_bltn (v := .ty "tuple") rfl T.n_tuple (by decide +kernel) rfl) pa_nil))))) (pw_or1 (pt_cmpR op_ne (pe_callB cn_len rfl T.n_len (by decide +kernel) (pa_cons (pv 0) pa_nil)) pe_int (nomark _))))) (pss_one (ps_ret pe_bl)) pss_nil)
      (pss_cons (ps_for (passes_of rfl) rfl (pi_tup (pv 0)) (pg_name (i := 1) sc__law_is_corner.nd rfl (Or.inl rfl)) (pss_one (ps_if (PW.pt (pw_or (pt_not (pt_val (pe_callB call_isi rfl T.n_isinstance (by decide +kernel) (pa_cons (pv 1) (pa_cons (pe_bltn (v := .ty "int") rfl T.n_int (by decide +kernel) rfl) pa_nil))))) (pw_or1 (pt_val (pe_callB call_isi rfl T.n_isinstance (by decide +kernel) (pa_cons (pv 1) (pa_cons (pe_bltn (v := .ty "bool") rfl T.n_bool (by decide +kernel) rfl) pa_nil))))))) (pss_one (ps_ret pe_bl)) pss_nil)))
      (pss_one (ps_ret pe_bl)))), ?_⟩
    try simp only [cxOf]
    obtain ⟨v, c, rfl, ⟨p, rfl, hp⟩, q⟩ := h
    obtain ⟨t, ty, _, _, k⟩ := (Plain.tup p _ hp).ty (K := Z.K)
    rw [isTu_tup hp] at k
    walk_at "W"
    refine w_isi ty k ?_
    walk_at "W"
    refine w_lenT (SqT.of hp) ?_
    walk_at "W"
    refine k_forT (fun _ σ' H' => H' = H ∧ ∃ x, σ' = [some (.ref p), x]) hp ⟨rfl, none, rfl⟩ (fun _ _ _ h => by rw [h.1]; exact hp) ?_ ?_
    · rintro i x σ' H' hx ⟨rfl, y, rfl⟩
      obtain ⟨z, rfl⟩ : ∃ z, x = V.int z := by
        rcases i with _ | _ | _ | _ | i
        · cases hx; exact ⟨_, rfl⟩
        · cases hx; exact ⟨_, rfl⟩
        · cases hx; exact ⟨_, rfl⟩
        · cases hx; exact ⟨_, rfl⟩
        · simp at hx
      obtain ⟨ty', hty', k1, k2, _⟩ := (Plain.int (H := H') z).ty (K := Z.K)
      walk_at "W"
      refine w_isi hty' k1 ?_
      walk_at "W"
      refine w_isi hty' k2 ?_
      walk_at "W"
      exact ⟨rfl, _, rfl⟩
    · rintro σ' H' ⟨rfl, y, rfl⟩
      walk_at "W"
      exact q
theorem rd_same {H H' : Hp} {a : Addr} {o : HO} (s : Same H H') (h : Rd H a o) : Rd H' a o := by
  rcases h with h | ⟨x, h⟩
  · exact .inl (s _ _ h)
  · exact .inr ⟨x, s _ _ h⟩
theorem dp_same {K : PySem.W.Frag} {H H' : Hp} (s : Same H H') : (∀ {v : V} {d : PyData}, Dp K H v d → Dp K H' v d) := by
  intro v d h
  induction h using Dp.rec (motive_2 := fun vs ds _ => DpAll K H' vs ds) with
  | non => exact .non
  | bl b => exact .bl b
  | int i => exact .int i
  | str x => exact .str x
  | lst h _ ih => exact .lst (h.imp (rd_same s) id) ih
  | tup h _ ih => exact .tup (h.imp (rd_same s) id) ih
  | nil => exact .nil
  | cons _ _ a b => exact .cons a b
/-- what a corner spoilt is -/
structure Odd4 (Z : Zs) (H : Hp) (v : V) (d : PyData) : Prop where
  bad : BadCor Z H v
  dp : Dp Z.K H v d
  lay : d.canLay0 = true
  dep : d.depth ≤ 5
theorem odd_part {Z : Zs} {H : Hp} {x y z u : V} {p : Addr} {dx dy dz du : PyData} (h : H p = some (.tup [x, y, z, u])) (px : Plain H x) (py : Plain H y) (pz : Plain H z) (pu : Plain H u) (n : ([x, y, z, u].all isI) = false)
    (d1 : Dp Z.K H x dx) (d2 : Dp Z.K H y dy) (d3 : Dp Z.K H z dz) (d4 : Dp Z.K H u du) (l1 : dx.canLay0 = true) (l2 : dy.canLay0 = true) (l3 : dz.canLay0 = true) (l4 : du.canLay0 = true)
    (e1 : dx.depth ≤ 3) (e2 : dy.depth ≤ 3) (e3 : dz.depth ≤ 3) (e4 : du.depth ≤ 3) : Odd4 Z H (.ref p) (.tuple [dx, dy, dz, du]) := by
  refine ⟨.inr ⟨p, _, rfl, h, by simp, fun v hv => ?_, by unfold isCor; rw [n, Bool.and_false]⟩, .tup (SqT.of h) (.cons d1 (.cons d2 (.cons d3 (.cons d4 .nil)))), ?_, ?_⟩
  · simp only [List.mem_cons, List.not_mem_nil, or_false] at hv
    rcases hv with rfl | rfl | rfl | rfl
    · exact px.thI
    · exact py.thI
    · exact pz.thI
    · exact pu.thI
  · simp only [PyData.canLay0, PyData.canLayAll0, l1, l2, l3, l4, Bool.and_self, Bool.and_true]
  · simp only [PyData.depth, PyData.depthAll]
    omega
-- needs W10
local macro_rules | `(tactic| walk_at "s") => `(tactic| first | with_reducible refine L2.My.w_augS ?_ | with_reducible refine L2.My.w_isN ?_)
/-- a thing that is no point -/
def NoPt (Z : Zs) (H : Hp) (v : V) : Prop := (Plain H v ∧ isTu H v = false) ∨ (∃ p xs, v = .ref p ∧ H p = some (.tup xs) ∧ xs.length ≠ 2) ∨ ∃ p x y, v = .ref p ∧ H p = some (.tup [x, y]) ∧ Th Z.c_Root H x ∧ Th Z.c_Root H y ∧ (isN Z.c_Root H x && isN Z.c_Root H y) = false
theorem NoPt.same {Z : Zs} {H H' : Hp} {v : V} (h : NoPt Z H v) (s : Same H H') : NoPt Z H' v := by
  rcases h with ⟨pl, nt⟩ | ⟨p, xs, rfl, e, n⟩ | ⟨p, x, y, rfl, e, hx, hy, n⟩
  · exact .inl ⟨pl.same s, (isTu_same pl s).trans nt⟩
  · exact .inr (.inl ⟨p, xs, rfl, s _ _ e, n⟩)
  · exact .inr (.inr ⟨p, x, y, rfl, s _ _ e, hx.same s, hy.same s, by rw [hx.isN_same s, hy.isN_same s]; exact n⟩)
abbrev s_is_point : Stmt := top 20
theorem sc_is_point : FnScope ["thing"] ["thing"] (defScope s_is_point) := ⟨rfl, rfl, rfl, by decide +kernel, rfl, by decide +kernel, by decide +kernel⟩

def sp_is_point (Z : Zs) : Sp := fun vs H Q E =>
  ∃ v, vs = [v] ∧ (NoPt Z H v ∧ Q (.bl false) H ∨ ∃ p x y, v = .ref p ∧ H p = some (.tup [x, y]) ∧ (∃ t r b, NumAt Z.c_Root H x t r b) ∧ (∃ t r b, NumAt Z.c_Root H y t r b) ∧ Q (.bl true) H)
theorem ok_is_point (T : Txt Z mg) (h_is_number : Has P w Z.K mg base "is_number" 2 ["thing"] (sp_is_number Z)) (D : AtF Z.K mg "is_point" "is_point" s_is_point ["thing"]) : Has P w Z.K mg base "is_point" 3 ["thing"] (sp_is_point Z) := by
  refine D.ok sc_is_point (fun vs H Q E h => ?_) (fun cdv A outer s H vs Q E hr h => ?_)
  · obtain ⟨v, rfl, _⟩ := h
    rfl
  · refine ⟨_, (pss_one (ps_ret (pe_and (pe_callB call_isi rfl T.n_isinstance (by decide +kernel) (pa_cons (pv 0) (pa_cons (pe_bltn (v := .ty "tuple") rfl T.n_tuple (by decide +kernel) rfl) pa_nil))) (pe_and (pe_cmpR op_eq (pe_callB cn_len rfl T.n_len (by decide +kernel) (pa_cons (pv 0) pa_nil)) pe_int (nomark _)) (pe_and (pe_h (E := ED E) h_is_number hr (paW (takes_of rfl rfl rfl rfl)) (pa_cons (pe_ix ix_seq (pv 0) pe_int (fun _ _ => rfl)) pa_nil)) (pe_one (pe_h (E := ED E) h_is_number hr (paW (takes_of rfl rfl rfl rfl)) (pa_cons (pe_ix ix_seq (pv 0) pe_int (fun _ _ => rfl)) pa_nil)))))))), ?_⟩
    try simp only [cxOf]
    obtain ⟨v, rfl, hh⟩ := h
    rcases hh with ⟨⟨pl, nt⟩ | ⟨p, xs, rfl, hp, ne⟩ | ⟨p, x, y, rfl, hp, hx, hy, n⟩, q⟩ | ⟨p, x, y, rfl, hp, ⟨t, r, b, hx⟩, ⟨t', r', b', hy⟩, q⟩
    · obtain ⟨ty, hty, _, _, k⟩ := pl.ty (K := Z.K)
      rw [nt] at k
      walk_at "W"
      refine w_isi hty k ?_
      walk_at "W"
      exact q
    · obtain ⟨ty, hty, _, _, k⟩ := (Plain.tup p _ hp).ty (K := Z.K)
      rw [isTu_tup hp] at k
      walk_at "W"
      refine w_isi hty k ?_
      walk_at "W"
      refine w_lenT (SqT.of hp) ?_
      walk_at "W"
      rw [show decide (V.int ((xs.length : Nat) : Int) = V.int 2) = false from (dec_len (k := 2)).trans (decide_eq_false ne)]
      walk_at "W"
      exact q
    · obtain ⟨ty, hty, _, _, k⟩ := (Plain.tup p _ hp).ty (K := Z.K)
      rw [isTu_tup hp] at k
      walk_at "W"
      refine w_isi hty k ?_
      walk_at "W"
      refine w_lenT (SqT.of hp) ?_
      walk_at "W"
      refine ⟨x, rfl, hx, ?_⟩
      walk_at "W"
      cases e : isN Z.c_Root H x
      · walk_at "W"
        exact q
      · walk_at "W"
        refine ⟨y, rfl, hy, ?_⟩
        rw [e, Bool.true_and] at n
        rw [n]
        walk_at "W"
        exact q
    · obtain ⟨ty, hty, _, _, k⟩ := (Plain.tup p _ hp).ty (K := Z.K)
      rw [isTu_tup hp] at k
      walk_at "W"
      refine w_isi hty k ?_
      walk_at "W"
      refine w_lenT (SqT.of hp) ?_
      walk_at "W"
      refine ⟨x, rfl, hx.th, ?_⟩
      rw [hx.isN]
      walk_at "W"
      refine ⟨y, rfl, hy.th, ?_⟩
      rw [hy.isN]
      walk_at "W"
      exact q
abbrev s_as_roots : Stmt := top 21
theorem sc_as_roots : FnScope ["point"] ["point"] (defScope s_as_roots) := ⟨rfl, rfl, rfl, by decide +kernel, rfl, by decide +kernel, by decide +kernel⟩

def sp_as_roots (Z : Zs) : Sp := fun vs H Q E =>
  ∃ p x y t r b t' r' b', vs = [.ref p] ∧ H p = some (.tup [x, y]) ∧ NumAt Z.c_Root H x t r b ∧ NumAt Z.c_Root H y t' r' b' ∧ ∀ u vx vy H', Same H H' → H' u = some (.tup [vx, vy]) → RootAt Z.c_Root H' vx t r b → RootAt Z.c_Root H' vy t' r' b' → Q (.ref u) H'
theorem ok_as_roots (T : Txt Z mg) (h_as_root : Has P w Z.K mg base "as_root" 5 ["number"] (sp_as_root Z)) (D : AtF Z.K mg "as_roots" "as_roots" s_as_roots ["point"]) : Has P w Z.K mg base "as_roots" 6 ["point"] (sp_as_roots Z) := by
  refine D.ok sc_as_roots (fun vs H Q E h => ?_) (fun cdv A outer s H vs Q E hr h => ?_)
  · obtain ⟨p, x, y, t, r, b, t', r', b', rfl, _⟩ := h
    rfl
  · refine ⟨_, (pss_one (ps_ret (pe_tup (pa_cons (pe_h (E := ED E) h_as_root hr (paW (takes_of rfl rfl rfl rfl)) (pa_cons (pe_ix ix_seq (pv 0) pe_int (fun _ _ => rfl)) pa_nil)) (pa_cons (pe_h (E := ED E) h_as_root hr (paW (takes_of rfl rfl rfl rfl)) (pa_cons (pe_ix ix_seq (pv 0) pe_int (fun _ _ => rfl)) pa_nil)) pa_nil))))), ?_⟩
    try simp only [cxOf]
    obtain ⟨p, x, y, t, r, b, t', r', b', rfl, hp, hx, hy, q⟩ := h
    walk_at "W"
    refine ⟨x, t, r, b, rfl, hx, fun vx H1 s1 h1 => ?_⟩
    have hp1 := s1 _ _ hp
    walk_at "W"
    refine ⟨y, t', r', b', rfl, hy.same s1, fun vy H2 s2 h2 => ?_⟩
    walk_at "W"
    exact k_tup rfl fun u H3 hu s3 e3 => q u vx vy H3 (s1.trans (s2.trans s3)) e3 ((h1.same s2).same s3) (h2.same s3)
/-- a point of Roots, of told numbers -/
def PtLow (c : Addr) (H : Hp) (u : Addr) (t r b t' r' b' : Int) : Prop := ∃ x y, H u = some (.tup [x, y]) ∧ LowAt c H x t r b ∧ LowAt c H y t' r' b'
theorem LowAt.same {c : Addr} {H H' : Hp} {v : V} {t r b : Int} (h : LowAt c H v t r b) (s : Same H H') : LowAt c H' v t r b := RootAt.same h s
theorem PtLow.same {c : Addr} {H H' : Hp} {u : Addr} {t r b t' r' b' : Int} (h : PtLow c H u t r b t' r' b') (s : Same H H') : PtLow c H' u t r b t' r' b' := by
  obtain ⟨x, y, a, b, d⟩ := h
  exact ⟨x, y, s _ _ a, b.same s, d.same s⟩
def spPl (Z : Zs) (f : C4 → C4) : Sp := fun vs H Q E => ∃ v, vs = [v] ∧ ((∃ c, CorAt H v c ∧ ∀ u H', Same H H' → PtLow Z.c_Root H' u (2 * (f c).a) ((f c).b - (f c).d) 2 (2 * (f c).c) ((f c).b + (f c).d) 2 → Q (.ref u) H') ∨ BadCor Z H v ∧ ErX Z.c_BadCorner "corner" v H E)
theorem emod_iff {x b : Int} (hb : b ≠ 0) : x % b = 0 ↔ ∃ k, x = k * b := ⟨fun h => ⟨x / b, by have := Int.emod_add_mul_ediv x b; rw [h, Int.zero_add, Int.mul_comm] at this; exact this.symm⟩, fun ⟨k, e⟩ => by rw [e]; exact Int.mul_emod_left k b⟩
theorem ediv_of {x b k : Int} (hb : b ≠ 0) (h : x = k * b) : x / b = k := by rw [h]; exact Int.mul_ediv_cancel k hb
/-- a whole number of ones and a whole number of halves of r -/
def Halves (t r b w h : Int) : Prop := t = w * b ∧ 2 * r = h * b
/-- a corner's place has these two numbers -/
def Fit (t r b t' r' b' : Int) (c : C4) : Prop := Halves t r b c.a (c.b - c.d) ∧ Halves t' r' b' c.c (c.b + c.d)
def spAt (Z : Zs) (f : C4 → C4) : Sp := fun vs H Q E => ∃ v, vs = [v] ∧ (NoPt Z H v ∧ ErX Z.c_BadPoint "point" v H E ∨ ∃ p x y t r b t' r' b', v = .ref p ∧ H p = some (.tup [x, y]) ∧ NumAt Z.c_Root H x t r b ∧ NumAt Z.c_Root H y t' r' b' ∧ 0 < b ∧ 0 < b' ∧ Bw 1000 b ∧ Bw 1000 b' ∧
  (∀ H', Same H H' → (∀ c, ¬ Fit t r b t' r' b' (f c)) → Q .non H') ∧ ∀ c v H', Same H H' → Fit t r b t' r' b' (f c) → CorAt H' v c → Q v H')
theorem int0 {x y : Int} : (V.int x = V.int y) ↔ x = y := ⟨fun h => by injection h, fun h => by rw [h]⟩
theorem low_whole {t b w : Int} (hb : b ≠ 0) (e : t = w * b) : lowT t 0 b = w ∧ lowR t 0 b = 0 ∧ lowB t 0 b = 1 := by
  have h := ((low_is (t := t) (r := 0) hb).whole w).mpr ⟨rfl, e⟩
  exact ⟨h.2.2, h.1, h.2.1⟩
abbrev s__law_given : Stmt := top 58
theorem sc__law_given : FnScope ["number"] ["number"] (defScope s__law_given) := ⟨rfl, rfl, rfl, by decide +kernel, rfl, by decide +kernel, by decide +kernel⟩

def sp__law_given (Z : Zs) : Sp := fun vs H Q E =>
  ∃ p t r b, vs = [.ref p] ∧ T3 H p t r b ∧ 0 < b ∧ Bw 1000 b ∧ ∀ v H', Same H H' → NumAt Z.c_Root H' v (lowT t r b) (lowR t r b) (lowB t r b) → Q v H'
theorem ok__law_given (T : Txt Z mg) (h_Root : HasC P w Z.K mg base "Root" Z.c_Root 3 ["self", "top", "root", "bottom"] (sp_Root_init Z)) (D : AtF Z.K mg "_law_given" "_law_given" s__law_given ["number"]) : Has P w Z.K mg base "_law_given" 5 ["number"] (sp__law_given Z) := by
  refine D.ok sc__law_given (fun vs H Q E h => ?_) (fun cdv A outer s H vs Q E hr h => ?_)
  · obtain ⟨p, t, r, b, rfl, _⟩ := h
    rfl
  · refine ⟨_, (pss_cons (ps_if (PW.pt (pw_and (pt_cmpR op_eq (pe_ix ix_seq (pv 0) pe_int (fun _ _ => rfl)) pe_int (nomark _)) (pw_and1 (pt_cmpR op_eq (pe_op op_mod (pe_callTy cn_int rfl T.n_int (by decide +kernel) (pa_cons (pe_ix ix_seq (pv 0) pe_int (fun _ _ => rfl)) pa_nil)) (pe_ix ix_seq (pv 0) pe_int (fun _ _ => rfl))) pe_int (nomark _))))) (pss_one (ps_ret (pe_op op_fdivW (pe_ix ix_seq (pv 0) pe_int (fun _ _ => rfl)) (pe_ix ix_seq (pv 0) pe_int (fun _ _ => rfl))))) pss_nil)
      (pss_one (ps_ret (pe_hc (E := ED E) h_Root hr (paW (takes_of rfl rfl rfl rfl)) (pa_cons (pe_ix ix_seq (pv 0) pe_int (fun _ _ => rfl)) (pa_cons (pe_ix ix_seq (pv 0) pe_int (fun _ _ => rfl)) (pa_cons (pe_ix ix_seq (pv 0) pe_int (fun _ _ => rfl)) pa_nil))))))), ?_⟩
    try simp only [cxOf]
    obtain ⟨p, t, r, b, rfl, h1, pb, wb, q⟩ := h
    unfold T3 at h1
    have hbn : b ≠ 0 := by omega
    have hdw : ∀ x : Int, CDivW x b := fun x => wide_div pb (wb.bd (by decide)) (by decide) (by decide)
    have made : MkC Z.c_Root (sp_Root_init Z) (ED E [some (.ref p)]) [.int t, .int r, .int b] H Q := k_mkRootI hbn (wb.bd (by decide)) fun v H1 s1 h1 => q v H1 s1 (.inl h1)
    walk_at "W"
    by_cases c1 : r = 0
    · rw [decide_eq_true (int0.mpr c1)]
      walk_at "W"
      by_cases c2 : t % b = 0
      · rw [decide_eq_true (int0.mpr c2)]
        obtain ⟨w, ew⟩ := (emod_iff hbn).mp c2
        walk_at "W"
        refine w_I (hdw _) ?_
        rw [ediv_of hbn ew]
        subst c1
        obtain ⟨a1, a2, a3⟩ := low_whole hbn ew
        exact q _ H (Same.refl _) (.inr ⟨w, rfl, a1, a2, a3⟩)
      · rw [decide_eq_false (fun z => c2 (int0.mp z))]
        walk_at "W"
        exact made
    · rw [decide_eq_false (fun z => c1 (int0.mp z))]
      walk_at "W"
      exact made
-- needs W11
local macro_rules | `(tactic| walk_at "s") => `(tactic| first | with_reducible refine L2.My.w_forEn ?_ | with_reducible refine L2.My.w_lcZT ?_ | with_reducible refine L2.My.w_notB ?_)
theorem vint0 {x y : Int} : (V.int x = V.int y) ↔ x = y := ⟨fun h => by injection h, fun h => by rw [h]⟩
/-- a number barred by an even direction, by an odd one -/
def EvB (t r b : Int) : Prop := (∃ k, 2 * t = (2 * k + 1) * b) ∧ ∃ m, 2 * r = m * b
def OdB (t r b : Int) : Prop := (∃ m, t = m * b) ∧ ∃ k, 2 * r = (2 * k + 1) * b
theorem ev_scale {t r b s : Int} (hs : s ≠ 0) : EvB (t * s) (r * s) (b * s) ↔ EvB t r b := by
  constructor
  · rintro ⟨⟨k, h1⟩, m, h2⟩
    exact ⟨⟨k, Int.eq_of_mul_eq_mul_right hs (by rw [Int.mul_assoc, h1, Int.mul_assoc])⟩, m, Int.eq_of_mul_eq_mul_right hs (by rw [Int.mul_assoc, h2, Int.mul_assoc])⟩
  · rintro ⟨⟨k, h1⟩, m, h2⟩
    exact ⟨⟨k, by rw [← Int.mul_assoc, h1, Int.mul_assoc]⟩, m, by rw [← Int.mul_assoc, h2, Int.mul_assoc]⟩
theorem od_scale {t r b s : Int} (hs : s ≠ 0) : OdB (t * s) (r * s) (b * s) ↔ OdB t r b := by
  constructor
  · rintro ⟨⟨m, h1⟩, k, h2⟩
    exact ⟨⟨m, Int.eq_of_mul_eq_mul_right hs (by rw [h1, Int.mul_assoc])⟩, k, Int.eq_of_mul_eq_mul_right hs (by rw [Int.mul_assoc, h2, Int.mul_assoc])⟩
  · rintro ⟨⟨m, h1⟩, k, h2⟩
    exact ⟨⟨m, by rw [h1, Int.mul_assoc]⟩, k, by rw [← Int.mul_assoc, h2, Int.mul_assoc]⟩
theorem ev_low {t r b : Int} (hb : b ≠ 0) : EvB (lowT t r b) (lowR t r b) (lowB t r b) ↔ EvB t r b := by
  obtain ⟨s, hs, e1, e2, e3⟩ := (low_is (t := t) (r := r) hb).s
  have k := ev_scale (t := lowT t r b) (r := lowR t r b) (b := lowB t r b) hs
  rw [← e1, ← e2, ← e3] at k
  exact k.symm
theorem od_low {t r b : Int} (hb : b ≠ 0) : OdB (lowT t r b) (lowR t r b) (lowB t r b) ↔ OdB t r b := by
  obtain ⟨s, hs, e1, e2, e3⟩ := (low_is (t := t) (r := r) hb).s
  have k := od_scale (t := lowT t r b) (r := lowR t r b) (b := lowB t r b) hs
  rw [← e1, ← e2, ← e3] at k
  exact k.symm
noncomputable def decB (p : Prop) : Bool := @decide p (Classical.propDecidable p)
theorem decB_t {p : Prop} (h : p) : decB p = true := @decide_eq_true p (Classical.propDecidable p) h
theorem decB_f {p : Prop} (h : ¬ p) : decB p = false := @decide_eq_false p (Classical.propDecidable p) h
theorem half_iff {t b : Int} (hb : b ≠ 0) : (2 * t - b) % (2 * b) = 0 ↔ ∃ k, 2 * t = (2 * k + 1) * b := by
  rw [emod_iff (by omega)]
  constructor
  · rintro ⟨k, h⟩
    exact ⟨k, by rw [Int.add_mul, Int.one_mul]; have : k * (2 * b) = 2 * k * b := by rw [← Int.mul_assoc, Int.mul_comm k 2]
                 omega⟩
  · rintro ⟨k, h⟩
    exact ⟨k, by rw [Int.add_mul, Int.one_mul] at h; have : k * (2 * b) = 2 * k * b := by rw [← Int.mul_assoc, Int.mul_comm k 2]
                 omega⟩
abbrev s_check_point : Stmt := top 36
theorem sc_check_point : FnScope ["point"] ["point"] (defScope s_check_point) := ⟨rfl, rfl, rfl, by decide +kernel, rfl, by decide +kernel, by decide +kernel⟩

def sp_check_point (Z : Zs) : Sp := fun vs H Q E =>
  ∃ v, vs = [v] ∧ (NoPt Z H v ∧ ErX Z.c_BadPoint "point" v H E ∨ ∃ p x y, v = .ref p ∧ H p = some (.tup [x, y]) ∧ (∃ t r b, NumAt Z.c_Root H x t r b) ∧ (∃ t r b, NumAt Z.c_Root H y t r b) ∧ Q .non H)
theorem ok_check_point (T : Txt Z mg) (h_is_point : Has P w Z.K mg base "is_point" 3 ["thing"] (sp_is_point Z)) (h_BadPoint : HasX P w Z.K mg base "BadPoint" Z.c_BadPoint 1 ["self", "point"] (sp_BadPoint_init Z)) (D : AtF Z.K mg "check_point" "check_point" s_check_point ["point"]) : Has P w Z.K mg base "check_point" 4 ["point"] (sp_check_point Z) := by
  refine D.ok sc_check_point (fun vs H Q E h => ?_) (fun cdv A outer s H vs Q E hr h => ?_)
  · obtain ⟨v, rfl, _⟩ := h
    rfl
  · refine ⟨_, (pss_one (ps_if (pt_not (pt_val (pe_h (E := ED E) h_is_point hr (paW (takes_of rfl rfl rfl rfl)) (pa_cons (pv 0) pa_nil)))) (pss_one (ps_raise rfl (takes_of rfl rfl rfl rfl) (pm_h T.x_BadPoint h_BadPoint hr (pa_cons (pv 0) pa_nil)))) pss_nil)), ?_⟩
    try simp only [cxOf]
    obtain ⟨v, rfl, ⟨n, er⟩ | ⟨p, x, y, rfl, hp, hx, hy, q⟩⟩ := h
    · walk_at "W"
      refine ⟨_, rfl, .inl ⟨n, ?_⟩⟩
      walk_at "W"
      exact k_mkO fun d H2 hd s4 e4 => er d H2 hd s4 e4
    walk_at "W"
    refine ⟨_, rfl, .inr ⟨p, x, y, rfl, hp, hx, hy, ?_⟩⟩
    walk_at "W"
    exact q
abbrev s_is_half : Stmt := top 37
theorem sc_is_half : FnScope ["top", "bottom"] ["top", "bottom"] (defScope s_is_half) := ⟨rfl, rfl, rfl, by decide +kernel, rfl, by decide +kernel, by decide +kernel⟩

def sp_is_half (Z : Zs) : Sp := fun vs H Q E =>
  ∃ t b : Int, vs = [.int t, .int b] ∧ 0 < b ∧ Q (.bl (decB (∃ k, 2 * t = (2 * k + 1) * b))) H
theorem ok_is_half (T : Txt Z mg)  (D : AtF Z.K mg "is_half" "is_half" s_is_half ["top", "bottom"]) : Has P w Z.K mg base "is_half" 1 ["top", "bottom"] (sp_is_half Z) := by
  refine D.ok sc_is_half (fun vs H Q E h => ?_) (fun cdv A outer s H vs Q E hr h => ?_)
  · obtain ⟨t, b, rfl, _⟩ := h
    rfl
  · refine ⟨_, (pss_one (ps_ret (pe_cmpR op_eq (pe_op op_mod (pe_op op_sub (pe_op op_mulS pe_int (pv 0)) (pv 1)) (pe_op op_mulS pe_int (pv 1))) pe_int (nomark _)))), ?_⟩
    try simp only [cxOf]
    obtain ⟨t, b, rfl, pb, q⟩ := h
    have hb : b ≠ 0 := by omega
    walk_at "W"
    by_cases c : ∃ k, 2 * t = (2 * k + 1) * b
    · rw [decB_t c] at q
      rw [decide_eq_true (vint0.mpr ((half_iff hb).mpr c))]
      exact q
    · rw [decB_f c] at q
      rw [decide_eq_false (fun z => c ((half_iff hb).mp (vint0.mp z)))]
      exact q
abbrev s_bars_evenly : Stmt := top 38
theorem sc_bars_evenly : FnScope ["number"] ["number"] (defScope s_bars_evenly) := ⟨rfl, rfl, rfl, by decide +kernel, rfl, by decide +kernel, by decide +kernel⟩

def sp_bars_evenly (Z : Zs) : Sp := fun vs H Q E =>
  ∃ v t r b, vs = [v] ∧ RootAt Z.c_Root H v t r b ∧ 0 < b ∧ Q (.bl (decB (EvB t r b))) H
theorem ok_bars_evenly (T : Txt Z mg) (h_is_half : Has P w Z.K mg base "is_half" 1 ["top", "bottom"] (sp_is_half Z)) (D : AtF Z.K mg "bars_evenly" "bars_evenly" s_bars_evenly ["number"]) : Has P w Z.K mg base "bars_evenly" 2 ["number"] (sp_bars_evenly Z) := by
  refine D.ok sc_bars_evenly (fun vs H Q E h => ?_) (fun cdv A outer s H vs Q E hr h => ?_)
  · obtain ⟨v, t, r, b, rfl, _⟩ := h
    rfl
  · refine ⟨_, (pss_one (ps_ret (pe_and (pe_h (E := ED E) h_is_half hr (paW (takes_of rfl rfl rfl rfl)) (pa_cons (pe_fld (pv 0) rfl) (pa_cons (pe_fld (pv 0) rfl) pa_nil))) (pe_one (pe_cmpR op_eq (pe_op op_mod (pe_op op_mulS pe_int (pe_fld (pv 0) rfl)) (pe_fld (pv 0) rfl)) pe_int (nomark _)))))), ?_⟩
    try simp only [cxOf]
    obtain ⟨v, t, r, b, rfl, ⟨a, dx, rfl, ha⟩, pb, q⟩ := h
    have hb : b ≠ 0 := by omega
    repeat (first | walk_at "s" | refine w_fld ha T.c_Root T.nf_top (rf_top _ _ _) ?_ | refine w_fld ha T.c_Root T.nf_root (rf_root _ _ _) ?_ | refine w_fld ha T.c_Root T.nf_bottom (rf_bottom _ _ _) ?_)
    refine ⟨t, b, rfl, pb, ?_⟩
    by_cases c : ∃ k, 2 * t = (2 * k + 1) * b
    · rw [decB_t c]
      repeat (first | walk_at "s" | refine w_fld ha T.c_Root T.nf_top (rf_top _ _ _) ?_ | refine w_fld ha T.c_Root T.nf_root (rf_root _ _ _) ?_ | refine w_fld ha T.c_Root T.nf_bottom (rf_bottom _ _ _) ?_)
      by_cases c2 : ∃ m, 2 * r = m * b
      · rw [decB_t ⟨c, c2⟩] at q
        rw [decide_eq_true (vint0.mpr ((emod_iff hb).mpr c2))]
        exact q
      · rw [decB_f (fun z => c2 z.2)] at q
        rw [decide_eq_false (fun z => c2 ((emod_iff hb).mp (vint0.mp z)))]
        exact q
    · rw [decB_f c]
      walk_at "W"
      rw [decB_f (fun z => c z.1)] at q
      exact q
abbrev s_bars_oddly : Stmt := top 39
theorem sc_bars_oddly : FnScope ["number"] ["number"] (defScope s_bars_oddly) := ⟨rfl, rfl, rfl, by decide +kernel, rfl, by decide +kernel, by decide +kernel⟩

def sp_bars_oddly (Z : Zs) : Sp := fun vs H Q E =>
  ∃ v t r b, vs = [v] ∧ RootAt Z.c_Root H v t r b ∧ 0 < b ∧ Q (.bl (decB (OdB t r b))) H
theorem ok_bars_oddly (T : Txt Z mg) (h_is_half : Has P w Z.K mg base "is_half" 1 ["top", "bottom"] (sp_is_half Z)) (D : AtF Z.K mg "bars_oddly" "bars_oddly" s_bars_oddly ["number"]) : Has P w Z.K mg base "bars_oddly" 2 ["number"] (sp_bars_oddly Z) := by
  refine D.ok sc_bars_oddly (fun vs H Q E h => ?_) (fun cdv A outer s H vs Q E hr h => ?_)
  · obtain ⟨v, t, r, b, rfl, _⟩ := h
    rfl
  · refine ⟨_, (pss_one (ps_ret (pe_and (pe_cmpR op_eq (pe_op op_mod (pe_fld (pv 0) rfl) (pe_fld (pv 0) rfl)) pe_int (nomark _)) (pe_one (pe_h (E := ED E) h_is_half hr (paW (takes_of rfl rfl rfl rfl)) (pa_cons (pe_fld (pv 0) rfl) (pa_cons (pe_fld (pv 0) rfl) pa_nil))))))), ?_⟩
    try simp only [cxOf]
    obtain ⟨v, t, r, b, rfl, ⟨a, dx, rfl, ha⟩, pb, q⟩ := h
    have hb : b ≠ 0 := by omega
    repeat (first | walk_at "s" | refine w_fld ha T.c_Root T.nf_top (rf_top _ _ _) ?_ | refine w_fld ha T.c_Root T.nf_root (rf_root _ _ _) ?_ | refine w_fld ha T.c_Root T.nf_bottom (rf_bottom _ _ _) ?_)
    by_cases c : ∃ m, t = m * b
    · rw [decide_eq_true (vint0.mpr ((emod_iff hb).mpr c))]
      repeat (first | walk_at "s" | refine w_fld ha T.c_Root T.nf_top (rf_top _ _ _) ?_ | refine w_fld ha T.c_Root T.nf_root (rf_root _ _ _) ?_ | refine w_fld ha T.c_Root T.nf_bottom (rf_bottom _ _ _) ?_)
      refine ⟨r, b, rfl, pb, ?_⟩
      by_cases c2 : ∃ k, 2 * r = (2 * k + 1) * b
      · rw [decB_t c2]
        rw [decB_t ⟨c, c2⟩] at q
        exact q
      · rw [decB_f c2]
        rw [decB_f (fun z => c2 z.2)] at q
        exact q
    · rw [decide_eq_false (fun z => c ((emod_iff hb).mp (vint0.mp z)))]
      walk_at "W"
      rw [decB_f (fun z => c z.1)] at q
      exact q
/-- the least direction that bars a shift, as the program tells it -/
noncomputable def barV (t r b t' r' b' : Int) : V :=
  if decB (EvB t' r' b') = true then .int 0 else if decB (OdB (plus.t t r b t' r' b') (plus.r t r b t' r' b') (plus.b t r b t' r' b')) = true then .int 1 else if decB (EvB t r b) = true then .int 2 else if decB (OdB (minus.t t' r' b' t r b) (minus.r t' r' b' t r b) (minus.b t' r' b' t r b)) = true then .int 3 else .non
abbrev s_barred : Stmt := top 40
theorem sc_barred : FnScope ["shift", "x", "y", "found", "direction"] ["shift"] (defScope s_barred) := ⟨rfl, rfl, rfl, by decide +kernel, rfl, by decide +kernel, by decide +kernel⟩

def sp_barred (Z : Zs) : Sp := fun vs H Q E =>
  ∃ v, vs = [v] ∧ (NoPt Z H v ∧ ErX Z.c_BadPoint "point" v H E ∨ ∃ p x y t r b t' r' b', v = .ref p ∧ H p = some (.tup [x, y]) ∧ NumAt Z.c_Root H x t r b ∧ NumAt Z.c_Root H y t' r' b' ∧ Sm t r b ∧ Sm t' r' b' ∧ ∀ H', Same H H' → Q (barV t r b t' r' b') H')
theorem ok_barred (T : Txt Z mg) (h_bars_oddly : Has P w Z.K mg base "bars_oddly" 2 ["number"] (sp_bars_oddly Z)) (h_bars_evenly : Has P w Z.K mg base "bars_evenly" 2 ["number"] (sp_bars_evenly Z)) (h_as_roots : Has P w Z.K mg base "as_roots" 6 ["point"] (sp_as_roots Z)) (h_check_point : Has P w Z.K mg base "check_point" 4 ["point"] (sp_check_point Z)) (h_Root_add : HasM P w Z.K mg base Z.c_Root "__add__" 6 ["self", "other"] (sp_Root_add Z)) (h_Root_radd : HasM P w Z.K mg base Z.c_Root "__radd__" 7 ["self", "other"] (sp_Root_radd Z)) (h_Root_sub : HasM P w Z.K mg base Z.c_Root "__sub__" 6 ["self", "other"] (sp_Root_sub Z)) (h_Root_rsub : HasM P w Z.K mg base Z.c_Root "__rsub__" 7 ["self", "other"] (sp_Root_rsub Z)) (D : AtF Z.K mg "barred" "barred" s_barred ["shift"]) : Has P w Z.K mg base "barred" 8 ["shift"] (sp_barred Z) := by
  refine D.ok sc_barred (fun vs H Q E h => ?_) (fun cdv A outer s H vs Q E hr h => ?_)
  · obtain ⟨v, rfl, _⟩ := h
    rfl
  · refine ⟨_, (pss_cons (ps_expr (pe_h (E := ED E) h_check_point hr (paW (takes_of rfl rfl rfl rfl)) (pa_cons (pv 0) pa_nil)))
      (pss_cons (ps_asg (pe_h (E := ED E) h_as_roots hr (paW (takes_of rfl rfl rfl rfl)) (pa_cons (pv 0) pa_nil)) (pg_tup rfl (pgs_cons (pg_name (i := 1) sc_barred.nd rfl (Or.inl rfl)) (pgs_cons (pg_name (i := 2) sc_barred.nd rfl (Or.inl rfl)) pgs_nil))))
      (pss_cons (ps_set (i := 3) sc_barred.nd rfl (Or.inl rfl) (pe_tup (pa_cons (pe_h (E := ED E) h_bars_evenly hr (paW (takes_of rfl rfl rfl rfl)) (pa_cons (pv 2) pa_nil)) (pa_cons (pe_h (E := ED E) h_bars_oddly hr (paW (takes_of rfl rfl rfl rfl)) (pa_cons (pe_op (op_addB T.ow h_Root_add h_Root_radd hr passL) (pv 1) (pv 2)) pa_nil)) (pa_cons (pe_h (E := ED E) h_bars_evenly hr (paW (takes_of rfl rfl rfl rfl)) (pa_cons (pv 1) pa_nil)) (pa_cons (pe_h (E := ED E) h_bars_oddly hr (paW (takes_of rfl rfl rfl rfl)) (pa_cons (pe_op (op_subB T.ow h_Root_sub h_Root_rsub hr passL) (pv 2) (pv 1)) pa_nil)) pa_nil))))))
      (pss_cons (ps_for (passes_of rfl) rfl (pi_range1 rfl T.n_range (pa_cons pe_int pa_nil)) (pg_name (i := 4) sc_barred.nd rfl (Or.inl rfl)) (pss_one (ps_if (pt_truth (pe_ix ix_seq (pv 3) (pv 4) (fun _ _ => rfl)) (by intro _; rfl)) (pss_one (ps_ret (pv 4))) pss_nil)))
      (pss_one (ps_ret pe_non)))))), ?_⟩
    try simp only [cxOf]
    obtain ⟨v, rfl, ⟨n, er⟩ | ⟨p, x, y, t, r, b, t', r', b', rfl, hp, hx, hy, sm, sm', q⟩⟩ := h
    · walk_at "W"
      exact ⟨_, rfl, .inl ⟨n, er⟩⟩
    have pb := sm.lw.pos
    have pb' := sm'.lw.pos
    walk_at "W"
    refine ⟨_, rfl, .inr ⟨p, x, y, rfl, hp, ⟨_, _, _, hx⟩, ⟨_, _, _, hy⟩, ?_⟩⟩
    walk_at "W"
    refine ⟨p, x, y, t, r, b, t', r', b', rfl, hp, hx, hy, fun u vx vy H1 s1 e1 h1 h2 => ?_⟩
    refine k_tupl2 e1 rfl rfl ?_
    walk_at "W"
    refine ⟨vy, t', r', b', rfl, h2, pb', ?_⟩
    walk_at "W"
    refine k_ownB rfl rfl (.inl h1) (.inl h2) (.inl h1) sm sm' fun w1 H2 s2 g1 => ?_
    walk_at "W"
    refine ⟨w1, _, _, _, rfl, g1, (low_is (Int.mul_ne_zero sm.hn sm'.hn)).pos, ?_⟩
    walk_at "W"
    refine ⟨vx, t, r, b, rfl, h1.same s2, pb, ?_⟩
    walk_at "W"
    refine k_ownB rfl rfl (.inl (h2.same s2)) (.inl (h1.same s2)) (.inl (h2.same s2)) sm' sm fun w2 H3 s3 g2 => ?_
    walk_at "W"
    refine ⟨w2, _, _, _, rfl, g2, (low_is (Int.mul_ne_zero sm'.hn sm.hn)).pos, ?_⟩
    rw [show decB (OdB (lowT (plus.t t r b t' r' b') (plus.r t r b t' r' b') (plus.b t r b t' r' b')) (lowR (plus.t t r b t' r' b') (plus.r t r b t' r' b') (plus.b t r b t' r' b')) (lowB (plus.t t r b t' r' b') (plus.r t r b t' r' b') (plus.b t r b t' r' b'))) = decB (OdB (plus.t t r b t' r' b') (plus.r t r b t' r' b') (plus.b t r b t' r' b')) from congrArg decB (propext (od_low (Int.mul_ne_zero sm.hn sm'.hn))),
      show decB (OdB (lowT (minus.t t' r' b' t r b) (minus.r t' r' b' t r b) (minus.b t' r' b' t r b)) (lowR (minus.t t' r' b' t r b) (minus.r t' r' b' t r b) (minus.b t' r' b' t r b)) (lowB (minus.t t' r' b' t r b) (minus.r t' r' b' t r b) (minus.b t' r' b' t r b))) = decB (OdB (minus.t t' r' b' t r b) (minus.r t' r' b' t r b) (minus.b t' r' b' t r b)) from congrArg decB (propext (od_low (Int.mul_ne_zero sm'.hn sm.hn)))]
    unfold barV at q
    generalize decB (EvB t' r' b') = f0 at *
    generalize decB (OdB (plus.t t r b t' r' b') (plus.r t r b t' r' b') (plus.b t r b t' r' b')) = f1 at *
    generalize decB (EvB t r b) = f2 at *
    generalize decB (OdB (minus.t t' r' b' t r b) (minus.r t' r' b' t r b) (minus.b t' r' b' t r b)) = f3 at *
    walk_at "W"
    refine k_tup rfl fun uf H4 huf s4 e4 => ?_
    have S := s1.trans (s2.trans (s3.trans s4))
    walk_at "W"
    refine k_forR (fun i σ' H' => H' = H4 ∧ (∃ z, σ' = [some (.ref p), some vx, some vy, some (.ref uf), z]) ∧ (0 < i → f0 = false) ∧ (1 < i → f1 = false) ∧ (2 < i → f2 = false) ∧ (3 < i → f3 = false)) (by decide) (by decide) ⟨rfl, ⟨none, rfl⟩, by omega, by omega, by omega, by omega⟩ ?_ ?_
    · rintro i σ' H' hi ⟨rfl, ⟨z, rfl⟩, c0, c1, c2, c3⟩
      have hi4 : i = 0 ∨ i = 1 ∨ i = 2 ∨ i = 3 := by have : i < 4 := hi; omega
      rcases hi4 with rfl | rfl | rfl | rfl
      · walk_at "W"
        refine ⟨_, rfl, ?_⟩
        cases f0
        · walk_at "W"
          exact ⟨rfl, ⟨_, rfl⟩, fun _ => rfl, by omega, by omega, by omega⟩
        · walk_at "W"
          exact q _ S
      · walk_at "W"
        refine ⟨_, rfl, ?_⟩
        have c0 := c0 (by omega)
        subst c0
        cases f1
        · walk_at "W"
          exact ⟨rfl, ⟨_, rfl⟩, fun _ => rfl, fun _ => rfl, by omega, by omega⟩
        · walk_at "W"
          exact q _ S
      · walk_at "W"
        refine ⟨_, rfl, ?_⟩
        have c0 := c0 (by omega)
        have c1 := c1 (by omega)
        subst c0 c1
        cases f2
        · walk_at "W"
          exact ⟨rfl, ⟨_, rfl⟩, fun _ => rfl, fun _ => rfl, fun _ => rfl, by omega⟩
        · walk_at "W"
          exact q _ S
      · walk_at "W"
        refine ⟨_, rfl, ?_⟩
        have c0 := c0 (by omega)
        have c1 := c1 (by omega)
        have c2 := c2 (by omega)
        subst c0 c1 c2
        cases f3
        · walk_at "W"
          exact ⟨rfl, ⟨_, rfl⟩, fun _ => rfl, fun _ => rfl, fun _ => rfl, fun _ => rfl⟩
        · walk_at "W"
          exact q _ S
    · rintro σ' H' ⟨rfl, ⟨z, rfl⟩, c0, c1, c2, c3⟩
      have c0 := c0 (by decide)
      have c1 := c1 (by decide)
      have c2 := c2 (by decide)
      have c3 := c3 (by decide)
      subst c0 c1 c2 c3
      walk_at "W"
      exact q _ S
/-- the shift over a common bottom -/
structure Gau (B X1 X2 Y1 Y2 t r b t' r' b' : Int) : Prop where
  pB : 0 < B
  wB : Bw 130 B
  w1 : Bw 600 X1
  w2 : Bw 600 X2
  w3 : Bw 600 Y1
  w4 : Bw 600 Y2
  e1 : X1 * b = t * B
  e2 : X2 * b = r * B
  e3 : Y1 * b' = t' * B
  e4 : Y2 * b' = r' * B
abbrev s_gauge_of : Stmt := top 32
theorem sc_gauge_of : FnScope ["shift", "x", "y", "bottom", "by", "up"] ["shift"] (defScope s_gauge_of) := ⟨rfl, rfl, rfl, by decide +kernel, rfl, by decide +kernel, by decide +kernel⟩

def sp_gauge_of (Z : Zs) : Sp := fun vs H Q E =>
  ∃ p vx vy t r b t' r' b', vs = [.ref p] ∧ H p = some (.tup [vx, vy]) ∧ RootAt Z.c_Root H vx t r b ∧ RootAt Z.c_Root H vy t' r' b' ∧ 0 < b ∧ 0 < b' ∧ Bw 64 b ∧ Bw 64 b' ∧ Bw 400 t ∧ Bw 400 r ∧ Bw 400 t' ∧ Bw 400 r' ∧
    ∀ u B X1 X2 Y1 Y2 H', Same H H' → H' u = some (.tup [.int B, .int X1, .int X2, .int Y1, .int Y2]) → Gau B X1 X2 Y1 Y2 t r b t' r' b' → Q (.ref u) H'
theorem ok_gauge_of (T : Txt Z mg)  (D : AtF Z.K mg "gauge_of" "gauge_of" s_gauge_of ["shift"]) : Has P w Z.K mg base "gauge_of" 1 ["shift"] (sp_gauge_of Z) := by
  refine D.ok sc_gauge_of (fun vs H Q E h => ?_) (fun cdv A outer s H vs Q E hr h => ?_)
  · obtain ⟨p, vx, vy, t, r, b, t', r', b', rfl, _⟩ := h
    rfl
  · refine ⟨_, (pss_cons (ps_asg (pv 0) (pg_tup rfl (pgs_cons (pg_name (i := 1) sc_gauge_of.nd rfl (Or.inl rfl)) (pgs_cons (pg_name (i := 2) sc_gauge_of.nd rfl (Or.inl rfl)) pgs_nil))))
      (pss_cons (ps_set (i := 3) sc_gauge_of.nd rfl (Or.inl rfl) (pe_callBfun cr_lcm rfl T.g_lcm (pa_cons (pe_fld (pv 1) rfl) (pa_cons (pe_fld (pv 2) rfl) pa_nil))))
      (pss_cons (ps_set (i := 4) sc_gauge_of.nd rfl (Or.inl rfl) (pe_op op_fdivW (pv 3) (pe_fld (pv 1) rfl)))
      (pss_cons (ps_set (i := 5) sc_gauge_of.nd rfl (Or.inl rfl) (pe_op op_fdivW (pv 3) (pe_fld (pv 2) rfl)))
      (pss_one (ps_ret (pe_tup (pa_cons (pv 3) (pa_cons (pe_op op_mulS (pe_fld (pv 1) rfl) (pv 4)) (pa_cons (pe_op op_mulS (pe_fld (pv 1) rfl) (pv 4)) (pa_cons (pe_op op_mulS (pe_fld (pv 2) rfl) (pv 5)) (pa_cons (pe_op op_mulS (pe_fld (pv 2) rfl) (pv 5)) pa_nil)))))))))))), ?_⟩
    try simp only [cxOf]
    obtain ⟨p, vx, vy, t, r, b, t', r', b', rfl, hp, ⟨a, dx, rfl, ha⟩, ⟨a', dx', rfl, ha'⟩, pb, pb', wb, wb', wt, wr, wt', wr', q⟩ := h
    have hdw : ∀ x : Int, CDivW x b := fun x => wide_div pb (wb.bd (by decide)) (by decide) (by decide)
    have hdw' : ∀ x : Int, CDivW x b' := fun x => wide_div pb' (wb'.bd (by decide)) (by decide) (by decide)
    walk_at "W"
    refine k_tupl2 hp rfl rfl ?_
    repeat (first | walk_at "s" | refine w_fld ha T.c_Root T.nf_bottom (rf_bottom _ _ _) ?_ | refine w_fld ha' T.c_Root T.nf_bottom (rf_bottom _ _ _) ?_)
    refine w_lcm wb wb' ?_
    obtain ⟨m, em⟩ : b.natAbs ∣ b.natAbs.lcm b'.natAbs := Nat.dvd_lcm_left _ _
    obtain ⟨m', em'⟩ : b'.natAbs ∣ b.natAbs.lcm b'.natAbs := Nat.dvd_lcm_right _ _
    have lpos : 0 < b.natAbs.lcm b'.natAbs := Nat.lcm_pos (by omega) (by omega)
    have lle : b.natAbs.lcm b'.natAbs ≤ b.natAbs * b'.natAbs := Nat.le_of_dvd (Nat.mul_pos (by omega) (by omega)) (Nat.lcm_dvd (Nat.dvd_mul_right _ _) (Nat.dvd_mul_left _ _))
    generalize b.natAbs.lcm b'.natAbs = L at *
    have eL : (L : Int) = (m : Int) * b := by
      have : (b.natAbs : Int) = b := by omega
      rw [em, Int.natCast_mul, this, Int.mul_comm]
    have eL' : (L : Int) = (m' : Int) * b' := by
      have : (b'.natAbs : Int) = b' := by omega
      rw [em', Int.natCast_mul, this, Int.mul_comm]
    have wL : Bw 130 (L : Int) := by
      have h1 : Bw 128 (b * b') := wb.mul wb'
      unfold Bw at *
      rw [Int.natAbs_mul] at h1
      rw [Int.natAbs_natCast]
      exact Nat.lt_of_le_of_lt lle (Nat.lt_of_lt_of_le h1 (Nat.pow_le_pow_right (by decide) (by decide)))
    have mle : ∀ {m : Nat} {b : Int}, 0 < b → (L : Int) = (m : Int) * b → Bw 130 (m : Int) := fun {m b} pb e => by
      refine bw_div wL e (by omega)
    have wm := mle pb eL
    have wm' := mle pb' eL'
    repeat (first | walk_at "s" | refine w_I (hdw _) ?_ | refine w_I (hdw' _) ?_ | refine w_fld ha T.c_Root T.nf_bottom (rf_bottom _ _ _) ?_ | refine w_fld ha' T.c_Root T.nf_bottom (rf_bottom _ _ _) ?_)
    rw [ediv_of (by omega) eL, ediv_of (by omega) eL']
    repeat (first | walk_at "s" | refine w_fld ha T.c_Root T.nf_top (rf_top _ _ _) ?_ | refine w_fld ha T.c_Root T.nf_root (rf_root _ _ _) ?_ | refine w_fld ha' T.c_Root T.nf_top (rf_top _ _ _) ?_ | refine w_fld ha' T.c_Root T.nf_root (rf_root _ _ _) ?_ | walk_at "mul")
    refine k_tup rfl fun u H1 hu s1 e1 => q u _ _ _ _ _ H1 s1 e1 ⟨by omega, wL, (wt.mul wm).mono (by decide), (wr.mul wm).mono (by decide), (wt'.mul wm').mono (by decide), (wr'.mul wm').mono (by decide), ?_, ?_, ?_, ?_⟩
    · rw [eL]; exact Int.mul_assoc _ _ _
    · rw [eL]; exact Int.mul_assoc _ _ _
    · rw [eL']; exact Int.mul_assoc _ _ _
    · rw [eL']; exact Int.mul_assoc _ _ _
/-- whether a number lies between minus and plus an edge -/
def bes (t r e f : Int) : Bool := decide (0 < sgn (e - t) (f - r)) && decide (0 < sgn (e + t) (f + r))
abbrev s_beside : Stmt := top 33
theorem sc_beside : FnScope ["top", "root", "edge_top", "edge_root"] ["top", "root", "edge_top", "edge_root"] (defScope s_beside) := ⟨rfl, rfl, rfl, by decide +kernel, rfl, by decide +kernel, by decide +kernel⟩

def sp_beside (Z : Zs) : Sp := fun vs H Q E =>
  ∃ t r e f : Int, vs = [.int t, .int r, .int e, .int f] ∧ Bw 2000 t ∧ Bw 2000 r ∧ Bw 2000 e ∧ Bw 2000 f ∧ Q (.bl (bes t r e f)) H
theorem ok_beside (T : Txt Z mg) (h_surd_sign : Has P w Z.K mg base "surd_sign" 1 ["top", "root"] (sp_surd_sign Z)) (D : AtF Z.K mg "beside" "beside" s_beside ["top", "root", "edge_top", "edge_root"]) : Has P w Z.K mg base "beside" 2 ["top", "root", "edge_top", "edge_root"] (sp_beside Z) := by
  refine D.ok sc_beside (fun vs H Q E h => ?_) (fun cdv A outer s H vs Q E hr h => ?_)
  · obtain ⟨t, r, e, f, rfl, _⟩ := h
    rfl
  · refine ⟨_, (pss_cons (ps_if (pt_cmpR op_le (pe_h (E := ED E) h_surd_sign hr (paW (takes_of rfl rfl rfl rfl)) (pa_cons (pe_op op_sub (pv 2) (pv 0)) (pa_cons (pe_op op_sub (pv 3) (pv 1)) pa_nil))) pe_int (nomark _)) (pss_one (ps_ret pe_bl)) pss_nil)
      (pss_one (ps_ret (pe_cmpR op_gt (pe_h (E := ED E) h_surd_sign hr (paW (takes_of rfl rfl rfl rfl)) (pa_cons (pe_op op_add (pv 2) (pv 0)) (pa_cons (pe_op op_add (pv 3) (pv 1)) pa_nil))) pe_int (nomark _))))), ?_⟩
    try simp only [cxOf]
    obtain ⟨t, r, e, f, rfl, wt, wr, we, wf, q⟩ := h
    unfold bes at q
    walk_at "W"
    refine ⟨_, _, rfl, (we.sub wt).mono (by decide), (wf.sub wr).mono (by decide), ?_⟩
    walk_at "W"
    by_cases c : sgn (e - t) (f - r) ≤ 0
    · rw [decide_eq_true c]
      rw [decide_eq_false (show ¬ (0 < sgn (e - t) (f - r)) by omega)] at q
      walk_at "W"
      exact q
    · rw [decide_eq_false c]
      rw [decide_eq_true (show 0 < sgn (e - t) (f - r) by omega)] at q
      walk_at "W"
      refine ⟨_, _, rfl, (we.add wt).mono (by decide), (wf.add wr).mono (by decide), ?_⟩
      walk_at "W"
      exact q
/-- the window's test over a common bottom -/
def inW (B X1 X2 Y1 Y2 : Int) (c : C4) : Bool :=
  bes (2 * (B * c.a - X1)) (B * (c.d - c.b) - 2 * X2) B B && (bes (-2 * (B * c.c + Y1)) (B * (c.b + c.d) - 2 * Y2) B B && (bes (2 * (B * c.a - X1) + -2 * (B * c.c + Y1)) (B * (c.d - c.b) - 2 * X2 + (B * (c.b + c.d) - 2 * Y2)) (2 * B) B &&
    bes (2 * (B * c.a - X1) - -2 * (B * c.c + Y1)) (B * (c.d - c.b) - 2 * X2 - (B * (c.b + c.d) - 2 * Y2)) (2 * B) B))
theorem k_tup5 {K : PySem.W.Frag} {T : Addr} {x y z u v : V} {σ σ' : L2.St} {H : Hp} {i j k l m : Nat} {N : L2.St → Hp → Prop} {n : Nat} (hT : H T = some (.tup [x, y, z, u, v])) (hn : n = 5) (hσ : ((((σ.set i (some x)).set j (some y)).set k (some z)).set l (some u)).set m (some v) = σ') (q : N σ' H) :
    gTup K n (gCons (gName i) (gCons (gName j) (gCons (gName k) (gCons (gName l) (gCons (gName m) gNil))))) (.ref T) σ H N := by
  subst hσ
  exact ⟨T, [x, y, z, u, v], rfl, SqT.of hT, by rw [hn]; rfl, x, _, rfl, y, _, rfl, z, _, rfl, u, _, rfl, v, [], rfl, rfl, q⟩
abbrev s_in_window : Stmt := top 34
theorem sc_in_window : FnScope ["gauge", "corner", "bottom", "x_top", "x_root", "y_top", "y_root", "x0", "x1", "x2", "x3", "top", "root", "up", "up_root"] ["gauge", "corner"] (defScope s_in_window) := ⟨rfl, rfl, rfl, by decide +kernel, rfl, by decide +kernel, by decide +kernel⟩

def sp_in_window (Z : Zs) : Sp := fun vs H Q E =>
  ∃ g p B X1 X2 Y1 Y2 c, vs = [.ref g, .ref p] ∧ H g = some (.tup [.int B, .int X1, .int X2, .int Y1, .int Y2]) ∧ H p = some (.tup [.int (c : C4).a, .int c.b, .int c.c, .int c.d]) ∧ Bw 130 B ∧ Bw 600 X1 ∧ Bw 600 X2 ∧ Bw 600 Y1 ∧ Bw 600 Y2 ∧ C4.bw 600 c ∧ Q (.bl (inW B X1 X2 Y1 Y2 c)) H
theorem ok_in_window (T : Txt Z mg) (h_beside : Has P w Z.K mg base "beside" 2 ["top", "root", "edge_top", "edge_root"] (sp_beside Z)) (D : AtF Z.K mg "in_window" "in_window" s_in_window ["gauge", "corner"]) : Has P w Z.K mg base "in_window" 3 ["gauge", "corner"] (sp_in_window Z) := by
  refine D.ok sc_in_window (fun vs H Q E h => ?_) (fun cdv A outer s H vs Q E hr h => ?_)
  · obtain ⟨g, p, B, X1, X2, Y1, Y2, c, rfl, _⟩ := h
    rfl
  · refine ⟨_, (pss_cons (ps_asg (pv 0) (pg_tup rfl (pgs_cons (pg_name (i := 2) sc_in_window.nd rfl (Or.inl rfl)) (pgs_cons (pg_name (i := 3) sc_in_window.nd rfl (Or.inl rfl)) (pgs_cons (pg_name (i := 4) sc_in_window.nd rfl (Or.inl rfl)) (pgs_cons (pg_name (i := 5) sc_in_window.nd rfl (Or.inl rfl)) (pgs_cons (pg_name (i := 6) sc_in_window.nd rfl (Or.inl rfl)) pgs_nil)))))))
      (pss_cons (ps_asg (pv 1) (pg_tup rfl (pgs_cons (pg_name (i := 7) sc_in_window.nd rfl (Or.inl rfl)) (pgs_cons (pg_name (i := 8) sc_in_window.nd rfl (Or.inl rfl)) (pgs_cons (pg_name (i := 9) sc_in_window.nd rfl (Or.inl rfl)) (pgs_cons (pg_name (i := 10) sc_in_window.nd rfl (Or.inl rfl)) pgs_nil))))))
      (pss_cons (ps_set (i := 11) sc_in_window.nd rfl (Or.inl rfl) (pe_op op_mulS pe_int (pe_op op_sub (pe_op op_mulS (pv 2) (pv 7)) (pv 3))))
      (pss_cons (ps_set (i := 12) sc_in_window.nd rfl (Or.inl rfl) (pe_op op_sub (pe_op op_mulS (pv 2) (pe_op op_sub (pv 10) (pv 8))) (pe_op op_mulS pe_int (pv 4))))
      (pss_cons (ps_if (pt_not (pt_val (pe_h (E := ED E) h_beside hr (paW (takes_of rfl rfl rfl rfl)) (pa_cons (pv 11) (pa_cons (pv 12) (pa_cons (pv 2) (pa_cons (pv 2) pa_nil))))))) (pss_one (ps_ret pe_bl)) pss_nil)
      (pss_cons (ps_set (i := 13) sc_in_window.nd rfl (Or.inl rfl) (pe_op op_mulS (pe_un un_neg pe_int) (pe_op op_add (pe_op op_mulS (pv 2) (pv 9)) (pv 5))))
      (pss_cons (ps_set (i := 14) sc_in_window.nd rfl (Or.inl rfl) (pe_op op_sub (pe_op op_mulS (pv 2) (pe_op op_add (pv 8) (pv 10))) (pe_op op_mulS pe_int (pv 6))))
      (pss_cons (ps_if (pt_not (pt_val (pe_h (E := ED E) h_beside hr (paW (takes_of rfl rfl rfl rfl)) (pa_cons (pv 13) (pa_cons (pv 14) (pa_cons (pv 2) (pa_cons (pv 2) pa_nil))))))) (pss_one (ps_ret pe_bl)) pss_nil)
      (pss_cons (ps_if (pt_not (pt_val (pe_h (E := ED E) h_beside hr (paW (takes_of rfl rfl rfl rfl)) (pa_cons (pe_op op_add (pv 11) (pv 13)) (pa_cons (pe_op op_add (pv 12) (pv 14)) (pa_cons (pe_op op_mulS pe_int (pv 2)) (pa_cons (pv 2) pa_nil))))))) (pss_one (ps_ret pe_bl)) pss_nil)
      (pss_one (ps_ret (pe_h (E := ED E) h_beside hr (paW (takes_of rfl rfl rfl rfl)) (pa_cons (pe_op op_sub (pv 11) (pv 13)) (pa_cons (pe_op op_sub (pv 12) (pv 14)) (pa_cons (pe_op op_mulS pe_int (pv 2)) (pa_cons (pv 2) pa_nil)))))))))))))))), ?_⟩
    try simp only [cxOf]
    obtain ⟨g, p, B, X1, X2, Y1, Y2, c, rfl, hg, hp, wB, w1, w2, w3, w4, ⟨wa, wb, wc, wd⟩, q⟩ := h
    unfold inW at q
    have wn2 : Bw 2 (-2 : Int) := Bw.two.neg
    walk_at "W"
    refine k_tup5 hg rfl rfl ?_
    walk_at "W"
    refine k_tup4 hp rfl rfl ?_
    repeat (first | walk_at "s" | walk_at "mul")
    have v1 : Bw 1000 (2 * (B * c.a - X1)) := (Bw.two.mul ((wB.mul wa).sub w1)).mono (by decide)
    have v2 : Bw 1000 (B * (c.d - c.b) - 2 * X2) := ((wB.mul (wd.sub wb)).sub (Bw.two.mul w2)).mono (by decide)
    have v3 : Bw 1000 (-2 * (B * c.c + Y1)) := (wn2.mul ((wB.mul wc).add w3)).mono (by decide)
    have v4 : Bw 1000 (B * (c.b + c.d) - 2 * Y2) := ((wB.mul (wb.add wd)).sub (Bw.two.mul w4)).mono (by decide)
    have v5 : Bw 2000 (2 * B) := (Bw.two.mul wB).mono (by decide)
    have v6 : Bw 2000 B := wB.mono (by decide)
    have v1' : Bw 2000 (2 * (B * c.a - X1)) := v1.mono (by decide)
    have v2' : Bw 2000 (B * (c.d - c.b) - 2 * X2) := v2.mono (by decide)
    have v3' : Bw 2000 (-2 * (B * c.c + Y1)) := v3.mono (by decide)
    have v4' : Bw 2000 (B * (c.b + c.d) - 2 * Y2) := v4.mono (by decide)
    have v7 : Bw 2000 ((2 * (B * c.a - X1)) + (-2 * (B * c.c + Y1))) := (v1.add v3).mono (by decide)
    have v8 : Bw 2000 ((B * (c.d - c.b) - 2 * X2) + (B * (c.b + c.d) - 2 * Y2)) := (v2.add v4).mono (by decide)
    have v9 : Bw 2000 ((2 * (B * c.a - X1)) - (-2 * (B * c.c + Y1))) := (v1.sub v3).mono (by decide)
    have v0 : Bw 2000 ((B * (c.d - c.b) - 2 * X2) - (B * (c.b + c.d) - 2 * Y2)) := (v2.sub v4).mono (by decide)
    refine ⟨_, _, _, _, rfl, v1', v2', v6, v6, ?_⟩
    cases e1 : bes (2 * (B * c.a - X1)) (B * (c.d - c.b) - 2 * X2) B B
    · rw [e1] at q
      walk_at "W"
      exact q
    rw [e1] at q
    repeat (first | walk_at "s" | walk_at "mul")
    refine ⟨_, _, _, _, rfl, v3', v4', v6, v6, ?_⟩
    cases e2 : bes (-2 * (B * c.c + Y1)) (B * (c.b + c.d) - 2 * Y2) B B
    · rw [e2] at q
      walk_at "W"
      exact q
    rw [e2] at q
    repeat (first | walk_at "s" | walk_at "mul")
    refine ⟨_, _, _, _, rfl, v7, v8, v5, v6, ?_⟩
    cases e3 : bes ((2 * (B * c.a - X1)) + (-2 * (B * c.c + Y1))) ((B * (c.d - c.b) - 2 * X2) + (B * (c.b + c.d) - 2 * Y2)) (2 * B) B
    · rw [e3] at q
      walk_at "W"
      exact q
    rw [e3] at q
    repeat (first | walk_at "s" | walk_at "mul")
    refine ⟨_, _, _, _, rfl, v9, v0, v5, v6, ?_⟩
    exact q
def floorF (u g : Addr) : List (Str × V) := [("shift", .ref u), ("_gauge", .ref g)]
theorem putS (v : V) : putF "shift" v [] = [(("shift" : Str), v)] := rfl
theorem putG (u v : V) : putF "_gauge" v [(("shift" : Str), u)] = [(("shift" : Str), u), ("_gauge", v)] := by
  have h1 : ¬ (("shift" : Str) = "_gauge") := by decide +kernel
  simp [putF, h1]
theorem ff_shift (u g : Addr) : (floorF u g).lookup ("shift" : Str) = some (.ref u) := by simp [floorF, List.lookup]
theorem ff_gauge (u g : Addr) : (floorF u g).lookup ("_gauge" : Str) = some (.ref g) := by
  have h1 : (("_gauge" : Str) == "shift") = false := by decide +kernel
  simp [floorF, List.lookup, h1]
theorem ff_none {u g : Addr} {m : Str} (h1 : (m == ("shift" : Str)) = false) (h2 : (m == ("_gauge" : Str)) = false) : (floorF u g).lookup m = none := by simp [floorF, List.lookup, h1, h2]
/-- a floor with a shift of two numbers, as kept -/
def FloorAt (Z : Zs) (H : Hp) (v : V) (t r b t' r' b' : Int) : Prop := ∃ a dx u g vx vy B X1 X2 Y1 Y2, v = .ref a ∧ H a = some (.ins Z.c_Floor dx (floorF u g)) ∧ H u = some (.tup [vx, vy]) ∧ RootAt Z.c_Root H vx t r b ∧ RootAt Z.c_Root H vy t' r' b' ∧
  H g = some (.tup [.int B, .int X1, .int X2, .int Y1, .int Y2]) ∧ Gau B X1 X2 Y1 Y2 t r b t' r' b'
theorem FloorAt.kps {Z : Zs} {H H' : Hp} {v : V} {t r b t' r' b' : Int} (h : FloorAt Z H v t r b t' r' b') (k : Kps H H') : FloorAt Z H' v t r b t' r' b' := by
  obtain ⟨a, dx, u, g, vx, vy, B, X1, X2, Y1, Y2, rfl, e1, e2, ⟨x, dx1, rfl, e3⟩, ⟨y, dx2, rfl, e4⟩, e5, G⟩ := h
  have n : ∀ {C d : Addr} {fs : List (Str × V)} (xs : List V), HO.ins C d fs ≠ .lst xs := fun xs z => by cases z
  exact ⟨a, dx, u, g, _, _, B, X1, X2, Y1, Y2, rfl, k _ _ n e1, k.tup e2, ⟨x, dx1, rfl, k _ _ n e3⟩, ⟨y, dx2, rfl, k _ _ n e4⟩, k.tup e5, G⟩
theorem FloorAt.same {Z : Zs} {H H' : Hp} {v : V} {t r b t' r' b' : Int} (h : FloorAt Z H v t r b t' r' b') (s : Same H H') : FloorAt Z H' v t r b t' r' b' := h.kps (Kps.same s)
theorem NumAt.sxF {c p : Addr} {H H' : Hp} {v : V} {t r b : Int} (h : NumAt c H v t r b) (n : ∀ a, v = .ref a → a ≠ p) (s : SameX p H H') : NumAt c H' v t r b := by
  rcases h with ⟨a, dx, rfl, e⟩ | h
  · exact .inl ⟨a, dx, rfl, s _ _ (n a rfl) e⟩
  · exact .inr h
abbrev s_Floor_init : Stmt := inClass (top 41) 0
theorem sc_Floor_init : FnScope ["self", "shift", "direction"] ["self", "shift"] (defScope s_Floor_init) := ⟨rfl, rfl, rfl, by decide +kernel, rfl, by decide +kernel, by decide +kernel⟩

def sp_Floor_init (Z : Zs) : Sp := fun vs H Q E =>
  ∃ p dx v, vs = [.ref p, v] ∧ H p = some (.ins Z.c_Floor dx []) ∧ (NoPt Z H v ∧ ErX Z.c_BadPoint "point" v H E ∨ ∃ w x y t r b t' r' b', v = .ref w ∧ H w = some (.tup [x, y]) ∧ NumAt Z.c_Root H x t r b ∧ NumAt Z.c_Root H y t' r' b' ∧ Sm t r b ∧ Sm t' r' b' ∧
    ((∃ k, barV t r b t' r' b' = .int k ∧ ErX Z.c_Barred "direction" (.int k) H E) ∨ Bw 64 b ∧ Bw 64 b' ∧ Bw 400 t ∧ Bw 400 r ∧ Bw 400 t' ∧ Bw 400 r' ∧ barV t r b t' r' b' = .non ∧ ∀ H', SameX p H H' → FloorAt Z H' (.ref p) t r b t' r' b' → Q .non H'))
theorem ok_Floor_init (T : Txt Z mg) (h_gauge_of : Has P w Z.K mg base "gauge_of" 1 ["shift"] (sp_gauge_of Z)) (h_as_roots : Has P w Z.K mg base "as_roots" 6 ["point"] (sp_as_roots Z)) (h_Barred : HasX P w Z.K mg base "Barred" Z.c_Barred 1 ["self", "direction"] (sp_Barred_init Z)) (h_barred : Has P w Z.K mg base "barred" 8 ["shift"] (sp_barred Z)) (h_check_point : Has P w Z.K mg base "check_point" 4 ["point"] (sp_check_point Z)) (D : AtC Z.K mg "Floor" Z.c_Floor "Floor.__init__" s_Floor_init ["self", "shift"]) : HasC P w Z.K mg base "Floor" Z.c_Floor 9 ["self", "shift"] (sp_Floor_init Z) := by
  refine D.ok sc_Floor_init (fun vs H Q E h => ?_) (fun cdv A outer s H vs Q E hr h => ?_)
  · obtain ⟨p, dx, v, rfl, _⟩ := h
    rfl
  · refine ⟨_, (pss_cons (ps_expr (pe_h (E := ED E) h_check_point hr (paW (takes_of rfl rfl rfl rfl)) (pa_cons (pv 1) pa_nil)))
      (pss_cons (ps_set (i := 2) sc_Floor_init.nd rfl (Or.inl rfl) (pe_h (E := ED E) h_barred hr (paW (takes_of rfl rfl rfl rfl)) (pa_cons (pv 1) pa_nil)))
      (pss_cons (ps_if (pt_cmpR op_notN (pv 2) pe_non (nomark _)) (pss_one (ps_raise rfl (takes_of rfl rfl rfl rfl) (pm_h T.x_Barred h_Barred hr (pa_cons (pv 2) pa_nil)))) pss_nil)
      (pss_cons (ps_fld (pv 0) (pe_h (E := ED E) h_as_roots hr (paW (takes_of rfl rfl rfl rfl)) (pa_cons (pv 1) pa_nil)) rfl)
      (pss_one (ps_fld (pv 0) (pe_h (E := ED E) h_gauge_of hr (paW (takes_of rfl rfl rfl rfl)) (pa_cons (pe_fld (pv 0) rfl) pa_nil)) rfl)))))), ?_⟩
    try simp only [cxOf]
    obtain ⟨p, dx, v, rfl, hp, ⟨n, er⟩ | ⟨w, x, y, t, r, b, t', r', b', rfl, hw, hx, hy, sm, sm', hh⟩⟩ := h
    · walk_at "W"
      exact ⟨_, rfl, .inl ⟨n, er⟩⟩
    walk_at "W"
    refine ⟨_, rfl, .inr ⟨w, x, y, rfl, hw, ⟨_, _, _, hx⟩, ⟨_, _, _, hy⟩, ?_⟩⟩
    walk_at "W"
    refine ⟨_, rfl, .inr ⟨w, x, y, t, r, b, t', r', b', rfl, hw, hx, hy, sm, sm', fun H1 s1 => ?_⟩⟩
    rcases hh with ⟨k, ek, er⟩ | ⟨wb, wb', wt, wr, wt', wr', nb, q⟩
    · rw [ek]
      walk_at "W"
      exact k_mkO (er.same s1)
    rw [nb]
    walk_at "W"
    refine ⟨w, x, y, t, r, b, t', r', b', rfl, s1 _ _ hw, hx.same s1, hy.same s1, fun u vx vy H2 s2 e2 h1 h2 => ?_⟩
    have S2 := s1.trans s2
    walk_at "W"
    refine w_sto (S2 _ _ hp) T.c_Floor T.nf_Floor_shift rfl fun H3 x3 e3 => ?_
    rw [putS] at e3
    have np : ∀ {a : Addr} {o : HO}, H2 a = some o → (∀ C d fs, o ≠ .ins C d fs) ∨ (∃ C d fs, o = .ins C d fs ∧ C ≠ Z.c_Floor) ∨ (∃ C d f fs, o = .ins C d (f :: fs)) → a ≠ p := fun {a o} e h z => by
      have e0 := S2 _ _ hp
      rw [← z, e] at e0
      cases e0
      rcases h with h | ⟨_, _, _, h, n⟩ | ⟨_, _, _, _, h⟩
      · exact h _ _ _ rfl
      · cases h; exact n rfl
      · cases h
    have up : H3 u = some (.tup [vx, vy]) := x3 _ _ (np e2 (.inl (by intros; intro z; cases z))) e2
    obtain ⟨ax, dx1, rfl, g1⟩ := h1
    obtain ⟨ay, dx2, rfl, g2⟩ := h2
    have k1 : H3 ax = some (.ins Z.c_Root dx1 (rootF t r b)) := x3 _ _ (np g1 (.inr (.inr ⟨_, _, _, _, rfl⟩))) g1
    have k2 : H3 ay = some (.ins Z.c_Root dx2 (rootF t' r' b')) := x3 _ _ (np g2 (.inr (.inr ⟨_, _, _, _, rfl⟩))) g2
    walk_at "W"
    refine w_fld e3 T.c_Floor T.nf_Floor_shift (show ([(("shift" : Str), V.ref u)] : List (Str × V)).lookup ("shift" : Str) = some (.ref u) by simp [List.lookup]) ?_
    walk_at "W"
    refine ⟨u, _, _, t, r, b, t', r', b', rfl, up, ⟨ax, dx1, rfl, k1⟩, ⟨ay, dx2, rfl, k2⟩, sm.lw.pos, sm'.lw.pos, wb, wb', wt, wr, wt', wr', fun g B X1 X2 Y1 Y2 H4 s4 eg G => ?_⟩
    walk_at "W"
    refine w_sto (s4 _ _ e3) T.c_Floor T.nf_Floor__gauge rfl fun H5 x5 e5 => ?_
    rw [putG] at e5
    have nq : ∀ {a : Addr} {o : HO}, H4 a = some o → (∀ C d fs, o ≠ .ins C d fs) ∨ (∃ C d f1 f2 f3 fs, o = .ins C d (f1 :: f2 :: f3 :: fs)) → a ≠ p := fun {a o} e h z => by
      have e0 := s4 _ _ e3
      rw [← z, e] at e0
      cases e0
      rcases h with h | ⟨_, _, _, _, _, _, h⟩
      · exact h _ _ _ rfl
      · cases h
    refine q H5 ((Same.x S2).trans (x3.trans ((Same.x s4).trans x5))) ⟨p, dx, u, g, _, _, B, X1, X2, Y1, Y2, rfl, e5, x5 _ _ (nq (s4 _ _ up) (.inl (by intros; intro z; cases z))) (s4 _ _ up), ⟨ax, dx1, rfl, x5 _ _ (nq (s4 _ _ k1) (.inr ⟨_, _, _, _, _, _, rfl⟩)) (s4 _ _ k1)⟩, ⟨ay, dx2, rfl, x5 _ _ (nq (s4 _ _ k2) (.inr ⟨_, _, _, _, _, _, rfl⟩)) (s4 _ _ k2)⟩, x5 _ _ (nq eg (.inl (by intros; intro z; cases z))) eg, G⟩
abbrev s_Floor_has_corner : Stmt := inClass (top 41) 3
theorem sc_Floor_has_corner : FnScope ["self", "corner"] ["self", "corner"] (defScope s_Floor_has_corner) := ⟨rfl, rfl, rfl, by decide +kernel, rfl, by decide +kernel, by decide +kernel⟩

def sp_Floor_has_corner (Z : Zs) : Sp := fun vs H Q E =>
  ∃ v o t r b t' r' b', vs = [v, o] ∧ FloorAt Z H v t r b t' r' b' ∧ ((∃ c, CorAt H o c ∧ C4.bw 600 c ∧ ∀ B X1 X2 Y1 Y2 H', Same H H' → Gau B X1 X2 Y1 Y2 t r b t' r' b' → Q (.bl (inW B X1 X2 Y1 Y2 c)) H') ∨ BadCor Z H o ∧ ErX Z.c_BadCorner "corner" o H E)
theorem ok_Floor_has_corner (T : Txt Z mg) (h_in_window : Has P w Z.K mg base "in_window" 3 ["gauge", "corner"] (sp_in_window Z)) (h_check_corner : Has P w Z.K mg base "check_corner" 3 ["corner"] (sp_check_corner Z)) (D : AtM Z.K Z.c_Floor "has_corner" "Floor.has_corner" s_Floor_has_corner ["self", "corner"]) : HasM P w Z.K mg base Z.c_Floor "has_corner" 4 ["self", "corner"] (sp_Floor_has_corner Z) := by
  refine D.ok sc_Floor_has_corner (fun vs H Q E h => ?_) (fun cdv A outer s H vs Q E hr h => ?_)
  · obtain ⟨v, o, t, r, b, t', r', b', rfl, _⟩ := h
    rfl
  · refine ⟨_, (pss_cons (ps_expr (pe_h (E := ED E) h_check_corner hr (paW (takes_of rfl rfl rfl rfl)) (pa_cons (pv 1) pa_nil)))
      (pss_one (ps_ret (pe_h (E := ED E) h_in_window hr (paW (takes_of rfl rfl rfl rfl)) (pa_cons (pe_fld (pv 0) rfl) (pa_cons (pv 1) pa_nil)))))), ?_⟩
    try simp only [cxOf]
    obtain ⟨v, o, t, r, b, t', r', b', rfl, hf, ⟨c, hc, wc, q⟩ | ⟨bad, er⟩⟩ := h
    · walk_at "W"
      refine ⟨_, rfl, .inl ⟨⟨c, hc⟩, fun H1 s1 => ?_⟩⟩
      obtain ⟨a, dx, u, g, vx, vy, B, X1, X2, Y1, Y2, rfl, e1, e2, e3, e4, e5, G⟩ := hf.same s1
      obtain ⟨p, rfl, hp⟩ := hc.same s1
      walk_at "W"
      refine w_fld e1 T.c_Floor T.nf_Floor__gauge (ff_gauge _ _) ?_
      walk_at "W"
      exact ⟨g, p, B, X1, X2, Y1, Y2, c, rfl, e5, hp, G.wB, G.w1, G.w2, G.w3, G.w4, wc, q _ _ _ _ _ H1 s1 G⟩
    · walk_at "W"
      exact ⟨_, rfl, .inr ⟨bad, er⟩⟩
/-- Floor((x, y)), from its __init__'s promise -/
theorem k_mkFloor {w : Addr} {x y : V} {t r b t' r' b' : Int} {H : Hp} {Q : VK} {E : XK} (hw : H w = some (.tup [x, y])) (hx : NumAt Z.c_Root H x t r b) (hy : NumAt Z.c_Root H y t' r' b') (sm : Sm t r b) (sm' : Sm t' r' b') (wb : Bw 64 b) (wb' : Bw 64 b') (wt : Bw 400 t) (wr : Bw 400 r) (wt' : Bw 400 t') (wr' : Bw 400 r')
    (nb : barV t r b t' r' b' = .non) (ok : ∀ v H', Same H H' → FloorAt Z H' v t r b t' r' b' → Q v H') : MkC Z.c_Floor (sp_Floor_init Z) E [.ref w] H Q := by
  intro p dx nx ndx nex
  have s0 : Same H (upd (upd H dx (.own p)) p (.ins Z.c_Floor dx [])) := fun b o e => by
    rw [upd_ne (ne_of_none e nx), upd_ne (ne_of_none e ndx)]; exact e
  have sx : ∀ H', SameX p (upd (upd H dx (.own p)) p (.ins Z.c_Floor dx [])) H' → Same H H' := fun H' s b o e => s b o (ne_of_none e nx) (s0 b o e)
  exact ⟨p, dx, _, rfl, upd_same, .inr ⟨w, x, y, t, r, b, t', r', b', rfl, s0 _ _ hw, hx.same s0, hy.same s0, sm, sm', .inr ⟨wb, wb', wt, wr, wt', wr', nb, fun H' s e => ⟨rfl, ok _ H' (sx H' s) e⟩⟩⟩⟩
/-- whether a number lies between minus and plus (k + r) / 2 -/
def in1 (t r b k : Int) : Bool := decide (0 < sgn (k * b - t * 2) (1 * b - r * 2)) && decide (0 < sgn (k * b + t * 2) (1 * b + r * 2))
/-- whether a point lies in the window -/
def inside (t r b t' r' b' : Int) : Bool :=
  in1 t' r' b' 1 && (in1 (plus.t t r b t' r' b') (plus.r t r b t' r' b') (plus.b t r b t' r' b') 2 && (in1 t r b 1 && in1 (minus.t t' r' b' t r b) (minus.r t' r' b' t r b) (minus.b t' r' b' t r b) 2))
theorem in1_scale {t r b k s : Int} (hs : 0 < s) : in1 (t * s) (r * s) (b * s) k = in1 t r b k := by
  unfold in1
  rw [show k * (b * s) - t * s * 2 = (k * b - t * 2) * s by grind, show 1 * (b * s) - r * s * 2 = (1 * b - r * 2) * s by grind, show k * (b * s) + t * s * 2 = (k * b + t * 2) * s by grind, show 1 * (b * s) + r * s * 2 = (1 * b + r * 2) * s by grind, sgn_scale hs, sgn_scale hs]
theorem in1_neg {t r b k : Int} : in1 (-t) (-r) b k = in1 t r b k := by
  unfold in1
  rw [show k * b - -t * 2 = k * b + t * 2 by grind, show 1 * b - -r * 2 = 1 * b + r * 2 by grind, show k * b + -t * 2 = k * b - t * 2 by grind, show 1 * b + -r * 2 = 1 * b - r * 2 by grind, Bool.and_comm]
theorem in1_bes {t r B k : Int} : in1 t r (2 * B) k = bes t r (k * B) B := by
  unfold in1 bes
  rw [show k * (2 * B) - t * 2 = (k * B - t) * 2 by grind, show 1 * (2 * B) - r * 2 = (B - r) * 2 by grind, show k * (2 * B) + t * 2 = (k * B + t) * 2 by grind, show 1 * (2 * B) + r * 2 = (B + r) * 2 by grind, sgn_scale (by decide), sgn_scale (by decide)]
theorem in1_congr {t r b t' r' b' k s s' : Int} (hs : 0 < s) (hs' : 0 < s') (e1 : t * s = t' * s') (e2 : r * s = r' * s') (e3 : b * s = b' * s') : in1 t r b k = in1 t' r' b' k := by
  rw [← in1_scale hs, e1, e2, e3, in1_scale hs']
theorem inside_congr {t r b t' r' b' p q a p' q' a' s s' z z' : Int} (hs : 0 < s) (hs' : 0 < s') (hz : 0 < z) (hz' : 0 < z') (e1 : t * s = p * z) (e2 : r * s = q * z) (e3 : b * s = a * z) (e4 : t' * s' = p' * z') (e5 : r' * s' = q' * z') (e6 : b' * s' = a' * z') : inside t r b t' r' b' = inside p q a p' q' a' := by
  unfold inside
  rw [in1_congr hs' hz' e4 e5 e6, in1_congr hs hz e1 e2 e3]
  have m1 : ∀ x y X Y : Int, x * s = X * z → y * s' = Y * z' → (x * y) * (s * s') = (X * Y) * (z * z') := fun x y X Y h1 h2 => by
    rw [show (x * y) * (s * s') = (x * s) * (y * s') by grind, h1, h2]; grind
  have a1 := m1 _ _ _ _ e1 e6
  have a2 := m1 _ _ _ _ e3 e4
  have a3 := m1 _ _ _ _ e2 e6
  have a4 := m1 _ _ _ _ e3 e5
  have a5 := m1 _ _ _ _ e3 e6
  rw [in1_congr (t := plus.t t r b t' r' b') (r := plus.r t r b t' r' b') (b := plus.b t r b t' r' b') (t' := plus.t p q a p' q' a') (r' := plus.r p q a p' q' a') (b' := plus.b p q a p' q' a') (s := s * s') (s' := z * z') (Int.mul_pos hs hs') (Int.mul_pos hz hz')
      (by show (t * b' + t' * b) * (s * s') = (p * a' + p' * a) * (z * z'); grind) (by show (r * b' + r' * b) * (s * s') = (q * a' + q' * a) * (z * z'); grind) a5,
    in1_congr (t := minus.t t' r' b' t r b) (r := minus.r t' r' b' t r b) (b := minus.b t' r' b' t r b) (t' := minus.t p' q' a' p q a) (r' := minus.r p' q' a' p q a) (b' := minus.b p' q' a' p q a) (s := s * s') (s' := z * z') (Int.mul_pos hs hs') (Int.mul_pos hz hz')
      (by show (t' * b - t * b') * (s * s') = (p' * a - p * a') * (z * z'); grind) (by show (r' * b - r * b') * (s * s') = (q' * a - q * a') * (z * z'); grind) (by show (b' * b) * (s * s') = (a' * a) * (z * z'); grind)]
theorem ands (a b c d : Bool) : (a && (b && (c && d))) = (b && (c && (a && d))) := by cases a <;> cases b <;> cases c <;> cases d <;> rfl
/-- the program's test over a common bottom is the window's -/
theorem inW_inside {B X1 X2 Y1 Y2 t r b t' r' b' : Int} (G : Gau B X1 X2 Y1 Y2 t r b t' r' b') (hb : 0 < b) (hb' : 0 < b') (c : C4) :
    inW B X1 X2 Y1 Y2 c = inside (minus.t (2 * (conj c).a) ((conj c).b - (conj c).d) 2 t r b) (minus.r (2 * (conj c).a) ((conj c).b - (conj c).d) 2 t r b) (minus.b (2 * (conj c).a) ((conj c).b - (conj c).d) 2 t r b)
      (minus.t (2 * (conj c).c) ((conj c).b + (conj c).d) 2 t' r' b') (minus.r (2 * (conj c).c) ((conj c).b + (conj c).d) 2 t' r' b') (minus.b (2 * (conj c).c) ((conj c).b + (conj c).d) 2 t' r' b') := by
  have pB := G.pB
  have e1 := G.e1
  have e2 := G.e2
  have e3 := G.e3
  have e4 := G.e4
  rw [inside_congr (p := 2 * (B * c.a - X1)) (q := B * (c.d - c.b) - 2 * X2) (a := 2 * B) (p' := -2 * (B * c.c + Y1)) (q' := B * (c.b + c.d) - 2 * Y2) (a' := 2 * B) (s := B) (z := b) (s' := B) (z' := b') pB pB hb hb'
    (by show (2 * c.a * b - t * 2) * B = 2 * (B * c.a - X1) * b; grind) (by show ((c.d - c.b) * b - r * 2) * B = (B * (c.d - c.b) - 2 * X2) * b; grind) (by show 2 * b * B = 2 * B * b; grind)
    (by show (2 * -c.c * b' - t' * 2) * B = -2 * (B * c.c + Y1) * b'; grind) (by show ((c.d + c.b) * b' - r' * 2) * B = (B * (c.b + c.d) - 2 * Y2) * b'; grind) (by show 2 * b' * B = 2 * B * b'; grind)]
  unfold inW inside
  generalize 2 * (B * c.a - X1) = A
  generalize B * (c.d - c.b) - 2 * X2 = A'
  generalize -2 * (B * c.c + Y1) = C
  generalize B * (c.b + c.d) - 2 * Y2 = C'
  rw [in1_congr (t := plus.t A A' (2 * B) C C' (2 * B)) (r := plus.r A A' (2 * B) C C' (2 * B)) (b := plus.b A A' (2 * B) C C' (2 * B)) (t' := A + C) (r' := A' + C') (b' := 2 * B) (s := 1) (s' := 2 * B) (by decide) (by omega) (by show (A * (2 * B) + C * (2 * B)) * 1 = (A + C) * (2 * B); grind) (by show (A' * (2 * B) + C' * (2 * B)) * 1 = (A' + C') * (2 * B); grind) (by show 2 * B * (2 * B) * 1 = 2 * B * (2 * B); grind),
    in1_congr (t := minus.t C C' (2 * B) A A' (2 * B)) (r := minus.r C C' (2 * B) A A' (2 * B)) (b := minus.b C C' (2 * B) A A' (2 * B)) (t' := -(A - C)) (r' := -(A' - C')) (b' := 2 * B) (s := 1) (s' := 2 * B) (by decide) (by omega) (by show (C * (2 * B) - A * (2 * B)) * 1 = -(A - C) * (2 * B); grind) (by show (C' * (2 * B) - A' * (2 * B)) * 1 = -(A' - C') * (2 * B); grind) (by show 2 * B * (2 * B) * 1 = 2 * B * (2 * B); grind),
    in1_neg, in1_bes, in1_bes, in1_bes, in1_bes, Int.one_mul]
  exact ands _ _ _ _
/-! ### barred shifts, moved by stars of corners -/
theorem ev_star {a e t r b : Int} (hb : b ≠ 0) : EvB (minus.t (2 * a) e 2 t r b) (minus.r (2 * a) e 2 t r b) (minus.b (2 * a) e 2 t r b) ↔ EvB t r b := by
  constructor
  · rintro ⟨⟨k, h1⟩, m, h2⟩
    have h1 : 2 * (2 * a * b - t * 2) = (2 * k + 1) * (2 * b) := h1
    have h2 : 2 * (e * b - r * 2) = m * (2 * b) := h2
    exact ⟨⟨a - k - 1, by grind⟩, e - m, by grind⟩
  · rintro ⟨⟨k, h1⟩, m, h2⟩
    exact ⟨⟨a - k - 1, by show 2 * (2 * a * b - t * 2) = (2 * (a - k - 1) + 1) * (2 * b); grind⟩, e - m, by show 2 * (e * b - r * 2) = (e - m) * (2 * b); grind⟩
theorem od_star {a e c f g t r b t' r' b' : Int} (hg : e + f = 2 * g) : OdB (plus.t (minus.t (2 * a) e 2 t r b) (minus.r (2 * a) e 2 t r b) (minus.b (2 * a) e 2 t r b) (minus.t (2 * c) f 2 t' r' b') (minus.r (2 * c) f 2 t' r' b') (minus.b (2 * c) f 2 t' r' b')) (plus.r (minus.t (2 * a) e 2 t r b) (minus.r (2 * a) e 2 t r b) (minus.b (2 * a) e 2 t r b) (minus.t (2 * c) f 2 t' r' b') (minus.r (2 * c) f 2 t' r' b') (minus.b (2 * c) f 2 t' r' b')) (plus.b (minus.t (2 * a) e 2 t r b) (minus.r (2 * a) e 2 t r b) (minus.b (2 * a) e 2 t r b) (minus.t (2 * c) f 2 t' r' b') (minus.r (2 * c) f 2 t' r' b') (minus.b (2 * c) f 2 t' r' b')) ↔
    OdB (plus.t t r b t' r' b') (plus.r t r b t' r' b') (plus.b t r b t' r' b') := by
  constructor
  · rintro ⟨⟨m, h1⟩, k, h2⟩
    have h1 : (2 * a * b - t * 2) * (2 * b') + (2 * c * b' - t' * 2) * (2 * b) = m * (2 * b * (2 * b')) := h1
    have h2 : 2 * ((e * b - r * 2) * (2 * b') + (f * b' - r' * 2) * (2 * b)) = (2 * k + 1) * (2 * b * (2 * b')) := h2
    refine ⟨⟨a + c - m, ?_⟩, g - k - 1, ?_⟩
    · show t * b' + t' * b = (a + c - m) * (b * b')
      grind
    · show 2 * (r * b' + r' * b) = (2 * (g - k - 1) + 1) * (b * b')
      grind
  · rintro ⟨⟨m, h1⟩, k, h2⟩
    have h1 : t * b' + t' * b = m * (b * b') := h1
    have h2 : 2 * (r * b' + r' * b) = (2 * k + 1) * (b * b') := h2
    refine ⟨⟨a + c - m, ?_⟩, g - k - 1, ?_⟩
    · show (2 * a * b - t * 2) * (2 * b') + (2 * c * b' - t' * 2) * (2 * b) = (a + c - m) * (2 * b * (2 * b'))
      grind
    · show 2 * ((e * b - r * 2) * (2 * b') + (f * b' - r' * 2) * (2 * b)) = (2 * (g - k - 1) + 1) * (2 * b * (2 * b'))
      grind
theorem od_star' {a e c f g t r b t' r' b' : Int} (hg : f - e = 2 * g) : OdB (minus.t (minus.t (2 * c) f 2 t' r' b') (minus.r (2 * c) f 2 t' r' b') (minus.b (2 * c) f 2 t' r' b') (minus.t (2 * a) e 2 t r b) (minus.r (2 * a) e 2 t r b) (minus.b (2 * a) e 2 t r b)) (minus.r (minus.t (2 * c) f 2 t' r' b') (minus.r (2 * c) f 2 t' r' b') (minus.b (2 * c) f 2 t' r' b') (minus.t (2 * a) e 2 t r b) (minus.r (2 * a) e 2 t r b) (minus.b (2 * a) e 2 t r b)) (minus.b (minus.t (2 * c) f 2 t' r' b') (minus.r (2 * c) f 2 t' r' b') (minus.b (2 * c) f 2 t' r' b') (minus.t (2 * a) e 2 t r b) (minus.r (2 * a) e 2 t r b) (minus.b (2 * a) e 2 t r b)) ↔
    OdB (minus.t t' r' b' t r b) (minus.r t' r' b' t r b) (minus.b t' r' b' t r b) := by
  constructor
  · rintro ⟨⟨m, h1⟩, k, h2⟩
    have h1 : (2 * c * b' - t' * 2) * (2 * b) - (2 * a * b - t * 2) * (2 * b') = m * (2 * b' * (2 * b)) := h1
    have h2 : 2 * ((f * b' - r' * 2) * (2 * b) - (e * b - r * 2) * (2 * b')) = (2 * k + 1) * (2 * b' * (2 * b)) := h2
    refine ⟨⟨c - a - m, ?_⟩, g - k - 1, ?_⟩
    · show t' * b - t * b' = (c - a - m) * (b' * b)
      grind
    · show 2 * (r' * b - r * b') = (2 * (g - k - 1) + 1) * (b' * b)
      grind
  · rintro ⟨⟨m, h1⟩, k, h2⟩
    have h1 : t' * b - t * b' = m * (b' * b) := h1
    have h2 : 2 * (r' * b - r * b') = (2 * k + 1) * (b' * b) := h2
    refine ⟨⟨c - a - m, ?_⟩, g - k - 1, ?_⟩
    · show (2 * c * b' - t' * 2) * (2 * b) - (2 * a * b - t * 2) * (2 * b') = (c - a - m) * (2 * b' * (2 * b))
      grind
    · show 2 * ((f * b' - r' * 2) * (2 * b) - (e * b - r * 2) * (2 * b')) = (2 * (g - k - 1) + 1) * (2 * b' * (2 * b))
      grind
theorem decB_congr {p q : Prop} (h : p ↔ q) : decB p = decB q := congrArg decB (propext h)
theorem bar_star {t r b t' r' b' : Int} (hb : b ≠ 0) (hb' : b' ≠ 0) (E : C4) : barV (minus.t (2 * E.a) (E.b - E.d) 2 t r b) (minus.r (2 * E.a) (E.b - E.d) 2 t r b) (minus.b (2 * E.a) (E.b - E.d) 2 t r b) (minus.t (2 * E.c) (E.b + E.d) 2 t' r' b') (minus.r (2 * E.c) (E.b + E.d) 2 t' r' b') (minus.b (2 * E.c) (E.b + E.d) 2 t' r' b') = barV t r b t' r' b' := by
  unfold barV
  rw [decB_congr (ev_star hb), decB_congr (ev_star hb'), decB_congr (od_star (g := E.b) (by omega)), decB_congr (od_star' (g := E.d) (by omega))]
theorem bar_scale {t r b t' r' b' s s' : Int} (hs : s ≠ 0) (hs' : s' ≠ 0) : barV (t * s) (r * s) (b * s) (t' * s') (r' * s') (b' * s') = barV t r b t' r' b' := by
  have h0 : s * s' ≠ 0 := Int.mul_ne_zero hs hs'
  unfold barV
  rw [decB_congr (ev_scale hs), decB_congr (ev_scale hs')]
  rw [show plus.t (t * s) (r * s) (b * s) (t' * s') (r' * s') (b' * s') = plus.t t r b t' r' b' * (s * s') by unfold plus; dsimp only; grind, show plus.r (t * s) (r * s) (b * s) (t' * s') (r' * s') (b' * s') = plus.r t r b t' r' b' * (s * s') by unfold plus; dsimp only; grind, show plus.b (t * s) (r * s) (b * s) (t' * s') (r' * s') (b' * s') = plus.b t r b t' r' b' * (s * s') by unfold plus; dsimp only; grind,
    show minus.t (t' * s') (r' * s') (b' * s') (t * s) (r * s) (b * s) = minus.t t' r' b' t r b * (s * s') by unfold minus; dsimp only; grind, show minus.r (t' * s') (r' * s') (b' * s') (t * s) (r * s) (b * s) = minus.r t' r' b' t r b * (s * s') by unfold minus; dsimp only; grind, show minus.b (t' * s') (r' * s') (b' * s') (t * s) (r * s) (b * s) = minus.b t' r' b' t r b * (s * s') by unfold minus; dsimp only; grind]
  rw [decB_congr (od_scale h0), decB_congr (od_scale h0)]
theorem bar_low {t r b t' r' b' : Int} (hb : b ≠ 0) (hb' : b' ≠ 0) : barV (lowT t r b) (lowR t r b) (lowB t r b) (lowT t' r' b') (lowR t' r' b') (lowB t' r' b') = barV t r b t' r' b' := by
  obtain ⟨s, hs, e1, e2, e3⟩ := (low_is (t := t) (r := r) hb).s
  obtain ⟨s', hs', e1', e2', e3'⟩ := (low_is (t := t') (r := r') hb').s
  have k := bar_scale (t := lowT t r b) (r := lowR t r b) (b := lowB t r b) (t' := lowT t' r' b') (r' := lowR t' r' b') (b' := lowB t' r' b') hs hs'
  rw [← e1, ← e2, ← e3, ← e1', ← e2', ← e3'] at k
  exact k.symm
abbrev s__law_lines : Stmt := top 51
theorem sc__law_lines : FnScope ["x", "y"] ["x", "y"] (defScope s__law_lines) := ⟨rfl, rfl, rfl, by decide +kernel, rfl, by decide +kernel, by decide +kernel⟩

def sp__law_lines (Z : Zs) : Sp := fun vs H Q E =>
  ∃ px py t r b t' r' b', vs = [.ref px, .ref py] ∧ T3 H px t r b ∧ T3 H py t' r' b' ∧ B3 t r b ∧ B3 t' r' b' ∧ ∀ u p1 p2 H', Same H H' → H' u = some (.lst [.ref py, .ref p1, .ref px, .ref p2]) →
    T3 H' p1 (plus.t t r b t' r' b') (plus.r t r b t' r' b') (plus.b t r b t' r' b') → T3 H' p2 (minus.t t' r' b' t r b) (minus.r t' r' b' t r b) (minus.b t' r' b' t r b) → Q (.ref u) H'
theorem ok__law_lines (T : Txt Z mg) (h__law_minus : Has P w Z.K mg base "_law_minus" 1 ["one", "other"] (sp__law_minus Z)) (h__law_plus : Has P w Z.K mg base "_law_plus" 1 ["one", "other"] (sp__law_plus Z)) (D : AtF Z.K mg "_law_lines" "_law_lines" s__law_lines ["x", "y"]) : Has P w Z.K mg base "_law_lines" 2 ["x", "y"] (sp__law_lines Z) := by
  refine D.ok sc__law_lines (fun vs H Q E h => ?_) (fun cdv A outer s H vs Q E hr h => ?_)
  · obtain ⟨px, py, t, r, b, t', r', b', rfl, _⟩ := h
    rfl
  · refine ⟨_, (pss_one (ps_ret (pe_lst (pa_cons (pv 1) (pa_cons (pe_h (E := ED E) h__law_plus hr (paW (takes_of rfl rfl rfl rfl)) (pa_cons (pv 0) (pa_cons (pv 1) pa_nil))) (pa_cons (pv 0) (pa_cons (pe_h (E := ED E) h__law_minus hr (paW (takes_of rfl rfl rfl rfl)) (pa_cons (pv 1) (pa_cons (pv 0) pa_nil))) pa_nil))))))), ?_⟩
    try simp only [cxOf]
    obtain ⟨px, py, t, r, b, t', r', b', rfl, h1, h2, b1, b2, q⟩ := h
    walk_at "W"
    refine ⟨px, py, _, _, _, _, _, _, rfl, h1, h2, b1, b2, fun p1 H1 z1 s1 e1 => ?_⟩
    walk_at "W"
    refine ⟨py, px, _, _, _, _, _, _, rfl, s1 _ _ h2, s1 _ _ h1, b2, b1, fun p2 H2 z2 s2 e2 => ?_⟩
    walk_at "W"
    exact k_lst rfl fun u H3 hu s3 e3 => q u p1 p2 H3 (s1.trans (s2.trans s3)) e3 (s3 _ _ (s2 _ _ e1)) (s3 _ _ e2)
theorem all4 {a b c d : Bool} {i : Nat} (h : ∀ j x, j < i → [a, b, c, d][j]? = some x → x = true) (hi : i = 4) : (a && (b && (c && d))) = true := by
  subst hi
  rw [h 0 a (by decide) rfl, h 1 b (by decide) rfl, h 2 c (by decide) rfl, h 3 d (by decide) rfl]
  rfl
theorem some4 {a b c d : Bool} {i : Nat} (h : [a, b, c, d][i]? = some false) : (a && (b && (c && d))) = false := by
  rcases i with _ | _ | _ | _ | i
  · cases h; rfl
  · cases h; cases a <;> rfl
  · cases h; cases a <;> cases b <;> rfl
  · cases h; cases a <;> cases b <;> cases c <;> rfl
  · simp at h
abbrev s__law_inside : Stmt := top 52
theorem sc__law_inside : FnScope ["x", "y", "way", "number", "rim"] ["x", "y"] (defScope s__law_inside) := ⟨rfl, rfl, rfl, by decide +kernel, rfl, by decide +kernel, by decide +kernel⟩

def sp__law_inside (Z : Zs) : Sp := fun vs H Q E =>
  ∃ px py t r b t' r' b', vs = [.ref px, .ref py] ∧ T3 H px t r b ∧ T3 H py t' r' b' ∧ Bw 450 t ∧ Bw 450 r ∧ Bw 450 b ∧ Bw 450 t' ∧ Bw 450 r' ∧ Bw 450 b' ∧ ∀ H', Same H H' → Q (.bl (inside t r b t' r' b')) H'
theorem ok__law_inside (T : Txt Z mg) (h__law_lines : Has P w Z.K mg base "_law_lines" 2 ["x", "y"] (sp__law_lines Z)) (h__law_sign : Has P w Z.K mg base "_law_sign" 1 ["number"] (sp__law_sign Z)) (h__law_plus : Has P w Z.K mg base "_law_plus" 1 ["one", "other"] (sp__law_plus Z)) (h__law_minus : Has P w Z.K mg base "_law_minus" 1 ["one", "other"] (sp__law_minus Z)) (D : AtF Z.K mg "_law_inside" "_law_inside" s__law_inside ["x", "y"]) : Has P w Z.K mg base "_law_inside" 3 ["x", "y"] (sp__law_inside Z) := by
  refine D.ok sc__law_inside (fun vs H Q E h => ?_) (fun cdv A outer s H vs Q E hr h => ?_)
  · obtain ⟨px, py, t, r, b, t', r', b', rfl, _⟩ := h
    rfl
  · refine ⟨_, (pss_cons (ps_for (passes_of rfl) rfl (pi_enum rfl T.n_enumerate (pa_cons (pe_h (E := ED E) h__law_lines hr (paW (takes_of rfl rfl rfl rfl)) (pa_cons (pv 0) (pa_cons (pv 1) pa_nil))) pa_nil)) (pg_tup rfl (pgs_cons (pg_name (i := 2) sc__law_inside.nd rfl (Or.inl rfl)) (pgs_cons (pg_name (i := 3) sc__law_inside.nd rfl (Or.inl rfl)) pgs_nil))) (pss_cons (ps_set (i := 4) sc__law_inside.nd rfl (Or.inl rfl) (pe_tup (pa_cons pe_int (pa_cons pe_int (pa_cons pe_int pa_nil)))))
      (C8.pss_cut (ps_if (pt_cmpR op_eq (pe_op op_mod (pv 2) pe_int) pe_int (nomark _)) (pss_one (ps_set (i := 4) sc__law_inside.nd rfl (Or.inl rfl) (pe_tup (pa_cons pe_int (pa_cons pe_int (pa_cons pe_int pa_nil)))))) pss_nil)
      (pss_one (ps_if (PW.pt (pw_or (pt_cmpR op_le (pe_h (E := ED E) h__law_sign hr (paW (takes_of rfl rfl rfl rfl)) (pa_cons (pe_h (E := ED E) h__law_minus hr (paW (takes_of rfl rfl rfl rfl)) (pa_cons (pv 4) (pa_cons (pv 3) pa_nil))) pa_nil)) pe_int (nomark _)) (pw_or1 (pt_cmpR op_le (pe_h (E := ED E) h__law_sign hr (paW (takes_of rfl rfl rfl rfl)) (pa_cons (pe_h (E := ED E) h__law_plus hr (paW (takes_of rfl rfl rfl rfl)) (pa_cons (pv 4) (pa_cons (pv 3) pa_nil))) pa_nil)) pe_int (nomark _))))) (pss_one (ps_ret pe_bl)) pss_nil)))))
      (pss_one (ps_ret pe_bl))), ?_⟩
    try simp only [cxOf]
    obtain ⟨px, py, t, r, b, t', r', b', rfl, h1, h2, w1, w2, w3, w4, w5, w6, q⟩ := h
    have u9 : ∀ {n : Nat} {x : Int}, Bw n x → n ≤ 950 → Bw 950 x := fun h l => h.mono l
    have up : ∀ {x : Int}, Bw 950 x → Bw 1000 x := fun h => h.mono (by decide)
    walk_at "W"
    refine ⟨px, py, t, r, b, t', r', b', rfl, h1, h2, ⟨up (u9 w1 (by decide)), up (u9 w2 (by decide)), up (u9 w3 (by decide))⟩, ⟨up (u9 w4 (by decide)), up (u9 w5 (by decide)), up (u9 w6 (by decide))⟩, fun u p1 p2 H1 s1 e1 g1 g2 => ?_⟩
    have h1 := s1 _ _ h1
    have h2 := s1 _ _ h2
    unfold inside at q
    have q1 : inside t r b t' r' b' = (in1 t' r' b' 1 && (in1 (plus.t t r b t' r' b') (plus.r t r b t' r' b') (plus.b t r b t' r' b') 2 && (in1 t r b 1 && in1 (minus.t t' r' b' t r b) (minus.r t' r' b' t r b) (minus.b t' r' b' t r b) 2))) := rfl
    refine k_forEn (xs := [.ref py, .ref p1, .ref px, .ref p2]) (fun i σ' H' => (∃ a b c, σ' = [some (.ref px), some (.ref py), a, b, c]) ∧ Same H1 H' ∧ ∀ j x, j < i → [in1 t' r' b' 1, in1 (plus.t t r b t' r' b') (plus.r t r b t' r' b') (plus.b t r b t' r' b') 2, in1 t r b 1, in1 (minus.t t' r' b' t r b) (minus.r t' r' b' t r b) (minus.b t' r' b' t r b) 2][j]? = some x → x = true) (SqL.of e1) ⟨⟨none, none, none, rfl⟩, Same.refl _, fun j x h => absurd h (Nat.not_lt_zero _)⟩ (fun i σ' H' h => SqL.of (h.2.1 _ _ e1)) ?_ ?_
    · rintro i x σ' H2 TT H3 hx ⟨⟨ya, yb, yc, rfl⟩, s2, ok⟩ hT s3 eT
      have S := s2.trans s3
      obtain ⟨p, tt, rr, bb, k, rfl, tp, b1, b2, b3, fl, kk⟩ : ∃ p tt rr bb k, x = V.ref p ∧ T3 H3 p tt rr bb ∧ Bw 950 tt ∧ Bw 950 rr ∧ Bw 950 bb ∧ [in1 t' r' b' 1, in1 (plus.t t r b t' r' b') (plus.r t r b t' r' b') (plus.b t r b t' r' b') 2, in1 t r b 1, in1 (minus.t t' r' b' t r b) (minus.r t' r' b' t r b) (minus.b t' r' b' t r b) 2][i]? = some (in1 tt rr bb k) ∧ ((i % 2 = 1 ∧ k = 2) ∨ (i % 2 = 0 ∧ k = 1)) := by
        rcases i with _ | _ | _ | _ | i
        · cases hx; exact ⟨py, _, _, _, 1, rfl, S _ _ h2, u9 w4 (by decide), u9 w5 (by decide), u9 w6 (by decide), rfl, .inr ⟨rfl, rfl⟩⟩
        · cases hx; exact ⟨p1, _, _, _, 2, rfl, S _ _ g1, u9 ((w1.mul w6).add (w4.mul w3)) (by decide), u9 ((w2.mul w6).add (w5.mul w3)) (by decide), u9 (w3.mul w6) (by decide), rfl, .inl ⟨rfl, rfl⟩⟩
        · cases hx; exact ⟨px, _, _, _, 1, rfl, S _ _ h1, u9 w1 (by decide), u9 w2 (by decide), u9 w3 (by decide), rfl, .inr ⟨rfl, rfl⟩⟩
        · cases hx; exact ⟨p2, _, _, _, 2, rfl, S _ _ g2, u9 ((w4.mul w3).sub (w1.mul w6)) (by decide), u9 ((w5.mul w3).sub (w2.mul w6)) (by decide), u9 (w6.mul w3) (by decide), rfl, .inl ⟨rfl, rfl⟩⟩
        · simp at hx
      have wk : Bw 2 k := by rcases kk with ⟨_, rfl⟩ | ⟨_, rfl⟩ <;> (unfold Bw; decide)
      refine k_tupl2 eT rfl rfl ?_
      walk_at "W"
      refine k_tup rfl fun u1 H4 hu1 s4 e4 => ?_
      walk_at "W"
      refine w_cut (fun σ' H' => (∃ ru, σ' = [some (.ref px), some (.ref py), some (.int (i : Nat)), some (.ref p), some (.ref ru)] ∧ T3 H' ru k 1 2) ∧ Same H3 H') ?_ ?_
      · walk_at "W"
        rcases kk with ⟨im, rfl⟩ | ⟨im, rfl⟩
        · rw [show ((i : Nat) : Int) % 2 = 1 by omega]
          walk_at "W"
          refine k_tup rfl fun u2 H5 hu2 s5 e5 => ?_
          walk_at "W"
          exact ⟨⟨u2, rfl, e5⟩, s4.trans s5⟩
        · rw [show ((i : Nat) : Int) % 2 = 0 by omega]
          walk_at "W"
          exact ⟨⟨u1, rfl, e4⟩, s4⟩
      rintro σ' H5 ⟨⟨ru, rfl, er⟩, s5⟩
      have tp := s5 _ _ tp
      have B1 : B3 k 1 2 := ⟨wk.mono (by decide), Bw.one.mono (by decide), Bw.two.mono (by decide)⟩
      have B2 : B3 tt rr bb := ⟨up b1, up b2, up b3⟩
      walk_at "W"
      refine ⟨ru, p, _, _, _, _, _, _, rfl, er, tp, B1, B2, fun u3 H6 z6 s6 e6 => ?_⟩
      walk_at "W"
      refine ⟨u3, _, _, _, rfl, e6, ((wk.mul b3).sub (b1.mul Bw.two)).mono (by decide), ((Bw.one.mul b3).sub (b2.mul Bw.two)).mono (by decide), ?_⟩
      have i1 : in1 tt rr bb k = (decide (0 < sgn (minus.t k 1 2 tt rr bb) (minus.r k 1 2 tt rr bb)) && decide (0 < sgn (plus.t k 1 2 tt rr bb) (plus.r k 1 2 tt rr bb))) := rfl
      have no : in1 tt rr bb k = false → ∀ H', Same H1 H' → Q (.bl false) H' := fun e H' ss => by
        have := q H' (s1.trans ss)
        rw [e] at fl
        rw [some4 fl] at this
        exact this
      walk_at "W"
      by_cases c1 : sgn (minus.t k 1 2 tt rr bb) (minus.r k 1 2 tt rr bb) ≤ 0
      · rw [decide_eq_true c1]
        walk_at "W"
        exact no (by rw [i1, decide_eq_false (show ¬ 0 < sgn (minus.t k 1 2 tt rr bb) (minus.r k 1 2 tt rr bb) by omega), Bool.false_and]) _ (S.trans (s5.trans s6))
      rw [decide_eq_false c1]
      walk_at "W"
      refine ⟨ru, p, _, _, _, _, _, _, rfl, s6 _ _ er, s6 _ _ tp, B1, B2, fun u4 H7 z7 s7 e7 => ?_⟩
      walk_at "W"
      refine ⟨u4, _, _, _, rfl, e7, ((wk.mul b3).add (b1.mul Bw.two)).mono (by decide), ((Bw.one.mul b3).add (b2.mul Bw.two)).mono (by decide), ?_⟩
      walk_at "W"
      by_cases c2 : sgn (plus.t k 1 2 tt rr bb) (plus.r k 1 2 tt rr bb) ≤ 0
      · rw [decide_eq_true c2]
        walk_at "W"
        exact no (by rw [i1, decide_eq_false (show ¬ 0 < sgn (plus.t k 1 2 tt rr bb) (plus.r k 1 2 tt rr bb) by omega), Bool.and_false]) _ (S.trans (s5.trans (s6.trans s7)))
      rw [decide_eq_false c2]
      walk_at "W"
      refine ⟨⟨_, _, _, rfl⟩, S.trans (s5.trans (s6.trans s7)), fun j y hj hy => ?_⟩
      rcases Nat.lt_or_eq_of_le (Nat.lt_succ_iff.mp hj) with h | h
      · exact ok j y h hy
      · subst h
        rw [fl] at hy
        cases hy
        rw [i1, decide_eq_true (show 0 < sgn (minus.t k 1 2 tt rr bb) (minus.r k 1 2 tt rr bb) by omega), decide_eq_true (show 0 < sgn (plus.t k 1 2 tt rr bb) (plus.r k 1 2 tt rr bb) by omega)]
        rfl
    · rintro σ' H2 ⟨⟨ya, yb, yc, rfl⟩, s2, ok⟩
      walk_at "W"
      have := q H2 (s1.trans s2)
      rw [all4 ok rfl] at this
      exact this
abbrev s__law_is_odd_half : Stmt := top 53
theorem sc__law_is_odd_half : FnScope ["top", "bottom"] ["top", "bottom"] (defScope s__law_is_odd_half) := ⟨rfl, rfl, rfl, by decide +kernel, rfl, by decide +kernel, by decide +kernel⟩

def sp__law_is_odd_half (Z : Zs) : Sp := fun vs H Q E =>
  ∃ t b : Int, vs = [.int t, .int b] ∧ 0 < b ∧ Bw 1000 b ∧ Q (.bl (decB (∃ k, 2 * t = (2 * k + 1) * b))) H
theorem ok__law_is_odd_half (T : Txt Z mg)  (D : AtF Z.K mg "_law_is_odd_half" "_law_is_odd_half" s__law_is_odd_half ["top", "bottom"]) : Has P w Z.K mg base "_law_is_odd_half" 1 ["top", "bottom"] (sp__law_is_odd_half Z) := by
  refine D.ok sc__law_is_odd_half (fun vs H Q E h => ?_) (fun cdv A outer s H vs Q E hr h => ?_)
  · obtain ⟨t, b, rfl, _⟩ := h
    rfl
  · refine ⟨_, (pss_one (ps_ret (pe_and (pe_cmpR op_eq (pe_op op_mod (pe_callTy cn_int rfl T.n_int (by decide +kernel) (pa_cons (pe_op op_mulS pe_int (pv 0)) pa_nil)) (pv 1)) pe_int (nomark _)) (pe_one (pe_cmpR op_eq (pe_op op_mod (pe_op op_fdivW (pe_callTy cn_int rfl T.n_int (by decide +kernel) (pa_cons (pe_op op_mulS pe_int (pv 0)) pa_nil)) (pv 1)) pe_int) pe_int (nomark _)))))), ?_⟩
    try simp only [cxOf]
    obtain ⟨t, b, rfl, pb, wb, q⟩ := h
    have hb : b ≠ 0 := by omega
    have hdw : ∀ x : Int, CDivW x b := fun x => wide_div pb (wb.bd (by decide)) (by decide) (by decide)
    walk_at "W"
    by_cases c : 2 * t % b = 0
    · rw [decide_eq_true (vint0.mpr c)]
      obtain ⟨k, ek⟩ := (emod_iff hb).mp c
      repeat (first | walk_at "s" | refine w_I (hdw _) ?_)
      rw [ediv_of hb ek]
      by_cases c2 : k % 2 = 1
      · rw [decide_eq_true (vint0.mpr c2)]
        rw [decB_t ⟨k / 2, by rw [show 2 * (k / 2) + 1 = k by omega]; exact ek⟩] at q
        exact q
      · rw [decide_eq_false (fun z => c2 (vint0.mp z))]
        rw [decB_f (fun ⟨k', h⟩ => c2 (by
          have := Int.eq_of_mul_eq_mul_right hb (ek.symm.trans h)
          omega))] at q
        exact q
    · rw [decide_eq_false (fun z => c (vint0.mp z))]
      walk_at "W"
      rw [decB_f (fun ⟨k', h⟩ => c ((emod_iff hb).mpr ⟨_, h⟩))] at q
      exact q
def barF (a b c d : Bool) : V := if a = true then .int 0 else if b = true then .int 1 else if c = true then .int 2 else if d = true then .int 3 else .non
theorem barF_at {a b c d : Bool} {i : Nat} (h : ∀ j x, j < i → [a, b, c, d][j]? = some x → x = false) (e : [a, b, c, d][i]? = some true) : barF a b c d = .int (i : Nat) := by
  rcases i with _ | _ | _ | _ | i
  · cases e; rfl
  · have h0 := h 0 a (by decide) rfl
    cases e; subst h0; rfl
  · have h0 := h 0 a (by decide) rfl
    have h1 := h 1 b (by decide) rfl
    cases e; subst h0 h1; rfl
  · have h0 := h 0 a (by decide) rfl
    have h1 := h 1 b (by decide) rfl
    have h2 := h 2 c (by decide) rfl
    cases e; subst h0 h1 h2; rfl
  · simp at e
theorem barF_non {a b c d : Bool} (h : ∀ j x, j < 4 → [a, b, c, d][j]? = some x → x = false) : barF a b c d = .non := by
  have h0 := h 0 a (by decide) rfl
  have h1 := h 1 b (by decide) rfl
  have h2 := h 2 c (by decide) rfl
  have h3 := h 3 d (by decide) rfl
  subst h0 h1 h2 h3
  rfl
abbrev s__law_barred : Stmt := top 54
theorem sc__law_barred : FnScope ["x", "y", "way", "number", "top", "root", "bottom"] ["x", "y"] (defScope s__law_barred) := ⟨rfl, rfl, rfl, by decide +kernel, rfl, by decide +kernel, by decide +kernel⟩

def sp__law_barred (Z : Zs) : Sp := fun vs H Q E =>
  ∃ px py t r b t' r' b', vs = [.ref px, .ref py] ∧ T3 H px t r b ∧ T3 H py t' r' b' ∧ 0 < b ∧ 0 < b' ∧ Bw 450 t ∧ Bw 450 r ∧ Bw 450 b ∧ Bw 450 t' ∧ Bw 450 r' ∧ Bw 450 b' ∧ ∀ H', Same H H' → Q (barV t r b t' r' b') H'
theorem ok__law_barred (T : Txt Z mg) (h__law_lines : Has P w Z.K mg base "_law_lines" 2 ["x", "y"] (sp__law_lines Z)) (h__law_is_odd_half : Has P w Z.K mg base "_law_is_odd_half" 1 ["top", "bottom"] (sp__law_is_odd_half Z)) (D : AtF Z.K mg "_law_barred" "_law_barred" s__law_barred ["x", "y"]) : Has P w Z.K mg base "_law_barred" 3 ["x", "y"] (sp__law_barred Z) := by
  refine D.ok sc__law_barred (fun vs H Q E h => ?_) (fun cdv A outer s H vs Q E hr h => ?_)
  · obtain ⟨px, py, t, r, b, t', r', b', rfl, _⟩ := h
    rfl
  · refine ⟨_, (pss_cons (ps_for (passes_of rfl) rfl (pi_enum rfl T.n_enumerate (pa_cons (pe_h (E := ED E) h__law_lines hr (paW (takes_of rfl rfl rfl rfl)) (pa_cons (pv 0) (pa_cons (pv 1) pa_nil))) pa_nil)) (pg_tup rfl (pgs_cons (pg_name (i := 2) sc__law_barred.nd rfl (Or.inl rfl)) (pgs_cons (pg_name (i := 3) sc__law_barred.nd rfl (Or.inl rfl)) pgs_nil))) (pss_cons (ps_set (i := 4) sc__law_barred.nd rfl (Or.inl rfl) (pe_ix ix_seq (pv 3) pe_int (fun _ _ => rfl)))
      (pss_cons (ps_set (i := 5) sc__law_barred.nd rfl (Or.inl rfl) (pe_ix ix_seq (pv 3) pe_int (fun _ _ => rfl)))
      (pss_cons (ps_set (i := 6) sc__law_barred.nd rfl (Or.inl rfl) (pe_ix ix_seq (pv 3) pe_int (fun _ _ => rfl)))
      (pss_cons (ps_if (PW.pt (pw_and (pt_cmpR op_eq (pe_op op_mod (pv 2) pe_int) pe_int (nomark _)) (pw_and (pt_val (pe_h (E := ED E) h__law_is_odd_half hr (paW (takes_of rfl rfl rfl rfl)) (pa_cons (pv 4) (pa_cons (pv 6) pa_nil)))) (pw_and1 (pt_cmpR op_eq (pe_op op_mod (pe_callTy cn_int rfl T.n_int (by decide +kernel) (pa_cons (pe_op op_mulS pe_int (pv 5)) pa_nil)) (pv 6)) pe_int (nomark _)))))) (pss_one (ps_ret (pv 2))) pss_nil)
      (pss_one (ps_if (PW.pt (pw_and (pt_cmpR op_eq (pe_op op_mod (pv 2) pe_int) pe_int (nomark _)) (pw_and (pt_cmpR op_eq (pe_op op_mod (pe_callTy cn_int rfl T.n_int (by decide +kernel) (pa_cons (pv 4) pa_nil)) (pv 6)) pe_int (nomark _)) (pw_and1 (pt_val (pe_h (E := ED E) h__law_is_odd_half hr (paW (takes_of rfl rfl rfl rfl)) (pa_cons (pv 5) (pa_cons (pv 6) pa_nil)))))))) (pss_one (ps_ret (pv 2))) pss_nil)))))))
      (pss_one (ps_ret pe_non))), ?_⟩
    try simp only [cxOf]
    obtain ⟨px, py, t, r, b, t', r', b', rfl, h1, h2, pb, pb', w1, w2, w3, w4, w5, w6, q⟩ := h
    have u9 : ∀ {n : Nat} {x : Int}, Bw n x → n ≤ 1000 → Bw 1000 x := fun h l => h.mono l
    walk_at "W"
    refine ⟨px, py, t, r, b, t', r', b', rfl, h1, h2, ⟨u9 w1 (by decide), u9 w2 (by decide), u9 w3 (by decide)⟩, ⟨u9 w4 (by decide), u9 w5 (by decide), u9 w6 (by decide)⟩, fun u p1 p2 H1 s1 e1 g1 g2 => ?_⟩
    have h1 := s1 _ _ h1
    have h2 := s1 _ _ h2
    have q1 : ∀ H', Same H1 H' → Q (barF (decB (EvB t' r' b')) (decB (OdB (plus.t t r b t' r' b') (plus.r t r b t' r' b') (plus.b t r b t' r' b'))) (decB (EvB t r b)) (decB (OdB (minus.t t' r' b' t r b) (minus.r t' r' b' t r b) (minus.b t' r' b' t r b)))) H' := fun H' s => q H' (s1.trans s)
    refine k_forEn (xs := [.ref py, .ref p1, .ref px, .ref p2]) (fun i σ' H' => (∃ a b c d e, σ' = [some (.ref px), some (.ref py), a, b, c, d, e]) ∧ Same H1 H' ∧ ∀ j x, j < i → [decB (EvB t' r' b'), decB (OdB (plus.t t r b t' r' b') (plus.r t r b t' r' b') (plus.b t r b t' r' b')), decB (EvB t r b), decB (OdB (minus.t t' r' b' t r b) (minus.r t' r' b' t r b) (minus.b t' r' b' t r b))][j]? = some x → x = false) (SqL.of e1) ⟨⟨none, none, none, none, none, rfl⟩, Same.refl _, fun j x h => absurd h (Nat.not_lt_zero _)⟩ (fun i σ' H' h => SqL.of (h.2.1 _ _ e1)) ?_ ?_
    · rintro i x σ' H2 TT H3 hx ⟨⟨ya, yb, yc, yd, ye, rfl⟩, s2, ok⟩ hT s3 eT
      have S := s2.trans s3
      obtain ⟨p, tt, rr, bb, P, rfl, tp, pbb, b3, fl, kk⟩ : ∃ p tt rr bb P, x = V.ref p ∧ T3 H3 p tt rr bb ∧ 0 < bb ∧ Bw 1000 bb ∧ [decB (EvB t' r' b'), decB (OdB (plus.t t r b t' r' b') (plus.r t r b t' r' b') (plus.b t r b t' r' b')), decB (EvB t r b), decB (OdB (minus.t t' r' b' t r b) (minus.r t' r' b' t r b) (minus.b t' r' b' t r b))][i]? = some (decB P) ∧ ((i % 2 = 1 ∧ P = OdB tt rr bb) ∨ (i % 2 = 0 ∧ P = EvB tt rr bb)) := by
        rcases i with _ | _ | _ | _ | i
        · cases hx; exact ⟨py, _, _, _, _, rfl, S _ _ h2, pb', u9 w6 (by decide), rfl, .inr ⟨rfl, rfl⟩⟩
        · cases hx; exact ⟨p1, _, _, _, _, rfl, S _ _ g1, Int.mul_pos pb pb', u9 (w3.mul w6) (by decide), rfl, .inl ⟨rfl, rfl⟩⟩
        · cases hx; exact ⟨px, _, _, _, _, rfl, S _ _ h1, pb, u9 w3 (by decide), rfl, .inr ⟨rfl, rfl⟩⟩
        · cases hx; exact ⟨p2, _, _, _, _, rfl, S _ _ g2, Int.mul_pos pb' pb, u9 (w6.mul w3) (by decide), rfl, .inl ⟨rfl, rfl⟩⟩
        · simp at hx
      have hbn : bb ≠ 0 := by omega
      have tp' : H3 p = some (.tup [.int tt, .int rr, .int bb]) := tp
      have hit : P → ∀ H', Same H1 H' → Q (.int (i : Nat)) H' := fun e H' ss => by
        have := q1 H' ss
        rw [decB_t e] at fl
        rw [barF_at ok fl] at this
        exact this
      have miss : ¬ P → ∀ j y, j < i + 1 → [decB (EvB t' r' b'), decB (OdB (plus.t t r b t' r' b') (plus.r t r b t' r' b') (plus.b t r b t' r' b')), decB (EvB t r b), decB (OdB (minus.t t' r' b' t r b) (minus.r t' r' b' t r b) (minus.b t' r' b' t r b))][j]? = some y → y = false := fun e j y hj hy => by
        rcases Nat.lt_or_eq_of_le (Nat.lt_succ_iff.mp hj) with h | h
        · exact ok j y h hy
        · subst h
          rw [fl, decB_f e] at hy
          cases hy
          rfl
      refine k_tupl2 eT rfl rfl ?_
      walk_at "W"
      rcases kk with ⟨im, rfl⟩ | ⟨im, rfl⟩
      · rw [show ((i : Nat) : Int) % 2 = 1 by omega]
        walk_at "W"
        rw [show ((i : Nat) : Int) % 2 = 1 by omega]
        walk_at "W"
        by_cases c : ∃ m, tt = m * bb
        · rw [decide_eq_true (vint0.mpr ((emod_iff hbn).mpr c))]
          walk_at "W"
          refine ⟨_, _, rfl, pbb, b3, ?_⟩
          walk_at "W"
          by_cases c2 : ∃ k, 2 * rr = (2 * k + 1) * bb
          · rw [decB_t c2]
            walk_at "W"
            exact hit ⟨c, c2⟩ _ S
          · rw [decB_f c2]
            walk_at "W"
            exact ⟨⟨_, _, _, _, _, rfl⟩, S, miss fun z => c2 z.2⟩
        · rw [decide_eq_false (fun z => c ((emod_iff hbn).mp (vint0.mp z)))]
          walk_at "W"
          exact ⟨⟨_, _, _, _, _, rfl⟩, S, miss fun z => c z.1⟩
      · rw [show ((i : Nat) : Int) % 2 = 0 by omega]
        walk_at "W"
        refine ⟨_, _, rfl, pbb, b3, ?_⟩
        walk_at "W"
        by_cases c : ∃ k, 2 * tt = (2 * k + 1) * bb
        · rw [decB_t c]
          walk_at "W"
          by_cases c2 : ∃ m, 2 * rr = m * bb
          · rw [decide_eq_true (vint0.mpr ((emod_iff hbn).mpr c2))]
            walk_at "W"
            exact hit ⟨c, c2⟩ _ S
          · rw [decide_eq_false (fun z => c2 ((emod_iff hbn).mp (vint0.mp z)))]
            walk_at "W"
            rw [show ((i : Nat) : Int) % 2 = 0 by omega]
            walk_at "W"
            exact ⟨⟨_, _, _, _, _, rfl⟩, S, miss fun z => c2 z.2⟩
        · rw [decB_f c]
          walk_at "W"
          rw [show ((i : Nat) : Int) % 2 = 0 by omega]
          walk_at "W"
          exact ⟨⟨_, _, _, _, _, rfl⟩, S, miss fun z => c z.1⟩
    · rintro σ' H2 ⟨⟨ya, yb, yc, yd, ye, rfl⟩, s2, ok⟩
      walk_at "W"
      have := q1 H2 s2
      rw [barF_non ok] at this
      exact this
theorem sgn_pp {t r : Int} (h : 0 < t) (h' : 0 ≤ r) : 0 < sgn t r := by
  unfold sgn
  rw [if_neg (by omega), if_pos ⟨by omega, h'⟩]
  decide
theorem in1_pos {t r b k : Int} (h1 : 0 < k * b - t * 2) (h2 : 0 ≤ 1 * b - r * 2) (h3 : 0 < k * b + t * 2) (h4 : 0 ≤ 1 * b + r * 2) : in1 t r b k = true := by
  unfold in1
  rw [decide_eq_true (sgn_pp h1 h2), decide_eq_true (sgn_pp h3 h4)]
  rfl
/-- what a spot is drawn as -/
structure SpotB (w x0 x1 y0 y1 : Int) : Prop where
  p : 0 < w
  m : w ≤ 1000000000000000000
  a1 : -(2 * w) ≤ x0
  a2 : x0 ≤ 2 * w
  a3 : -w ≤ x1
  a4 : x1 ≤ w
  b1 : -(2 * w) ≤ y0
  b2 : y0 ≤ 2 * w
  b3 : -w ≤ y1
  b4 : y1 ≤ w
theorem spot_fifth {w x0 x1 y0 y1 : Int} (h : SpotB w x0 x1 y0 y1) : inside x0 x1 (5 * w) y0 y1 (5 * w) = true := by
  obtain ⟨p, m, a1, a2, a3, a4, b1, b2, b3, b4⟩ := h
  have pw : ∀ {z : Int}, 0 < z → 0 < 5 * w * z := fun h => Int.mul_pos (by omega) h
  unfold inside
  rw [in1_pos (t := y0) (r := y1) (by omega) (by omega) (by omega) (by omega), in1_pos (t := x0) (r := x1) (by omega) (by omega) (by omega) (by omega),
    in1_pos (t := plus.t x0 x1 (5 * w) y0 y1 (5 * w)) (r := plus.r x0 x1 (5 * w) y0 y1 (5 * w)) (b := plus.b x0 x1 (5 * w) y0 y1 (5 * w)) ?_ ?_ ?_ ?_,
    in1_pos (t := minus.t y0 y1 (5 * w) x0 x1 (5 * w)) (r := minus.r y0 y1 (5 * w) x0 x1 (5 * w)) (b := minus.b y0 y1 (5 * w) x0 x1 (5 * w)) ?_ ?_ ?_ ?_]
  · rfl
  · have := pw (z := 2 * (5 * w) - (y0 - x0) * 2) (by omega)
    show 0 < 2 * (5 * w * (5 * w)) - (y0 * (5 * w) - x0 * (5 * w)) * 2
    rw [show 2 * (5 * w * (5 * w)) - (y0 * (5 * w) - x0 * (5 * w)) * 2 = 5 * w * (2 * (5 * w) - (y0 - x0) * 2) by grind]; exact this
  · have := pw (z := 5 * w - (y1 - x1) * 2) (by omega)
    show 0 ≤ 1 * (5 * w * (5 * w)) - (y1 * (5 * w) - x1 * (5 * w)) * 2
    rw [show 1 * (5 * w * (5 * w)) - (y1 * (5 * w) - x1 * (5 * w)) * 2 = 5 * w * (5 * w - (y1 - x1) * 2) by grind]; omega
  · have := pw (z := 2 * (5 * w) + (y0 - x0) * 2) (by omega)
    show 0 < 2 * (5 * w * (5 * w)) + (y0 * (5 * w) - x0 * (5 * w)) * 2
    rw [show 2 * (5 * w * (5 * w)) + (y0 * (5 * w) - x0 * (5 * w)) * 2 = 5 * w * (2 * (5 * w) + (y0 - x0) * 2) by grind]; exact this
  · have := pw (z := 5 * w + (y1 - x1) * 2) (by omega)
    show 0 ≤ 1 * (5 * w * (5 * w)) + (y1 * (5 * w) - x1 * (5 * w)) * 2
    rw [show 1 * (5 * w * (5 * w)) + (y1 * (5 * w) - x1 * (5 * w)) * 2 = 5 * w * (5 * w + (y1 - x1) * 2) by grind]; omega
  · have := pw (z := 2 * (5 * w) - (x0 + y0) * 2) (by omega)
    show 0 < 2 * (5 * w * (5 * w)) - (x0 * (5 * w) + y0 * (5 * w)) * 2
    rw [show 2 * (5 * w * (5 * w)) - (x0 * (5 * w) + y0 * (5 * w)) * 2 = 5 * w * (2 * (5 * w) - (x0 + y0) * 2) by grind]; exact this
  · have := pw (z := 5 * w - (x1 + y1) * 2) (by omega)
    show 0 ≤ 1 * (5 * w * (5 * w)) - (x1 * (5 * w) + y1 * (5 * w)) * 2
    rw [show 1 * (5 * w * (5 * w)) - (x1 * (5 * w) + y1 * (5 * w)) * 2 = 5 * w * (5 * w - (x1 + y1) * 2) by grind]; omega
  · have := pw (z := 2 * (5 * w) + (x0 + y0) * 2) (by omega)
    show 0 < 2 * (5 * w * (5 * w)) + (x0 * (5 * w) + y0 * (5 * w)) * 2
    rw [show 2 * (5 * w * (5 * w)) + (x0 * (5 * w) + y0 * (5 * w)) * 2 = 5 * w * (2 * (5 * w) + (x0 + y0) * 2) by grind]; exact this
  · have := pw (z := 5 * w + (x1 + y1) * 2) (by omega)
    show 0 ≤ 1 * (5 * w * (5 * w)) + (x1 * (5 * w) + y1 * (5 * w)) * 2
    rw [show 1 * (5 * w * (5 * w)) + (x1 * (5 * w) + y1 * (5 * w)) * 2 = 5 * w * (5 * w + (x1 + y1) * 2) by grind]; omega
theorem spot_ninth {m n : Int} (h1 : -4 ≤ m) (h2 : m ≤ 4) (h3 : -4 ≤ n) (h4 : n ≤ 4) : inside m 0 9 n 0 9 = true ∧ barV m 0 9 n 0 9 = .non := by
  constructor
  · unfold inside
    rw [in1_pos (t := n) (by omega) (by omega) (by omega) (by omega), in1_pos (t := m) (by omega) (by omega) (by omega) (by omega),
      in1_pos (t := plus.t m 0 9 n 0 9) (r := plus.r m 0 9 n 0 9) (b := plus.b m 0 9 n 0 9) (by unfold plus; dsimp only; omega) (by unfold plus; dsimp only; omega) (by unfold plus; dsimp only; omega) (by unfold plus; dsimp only; omega),
      in1_pos (t := minus.t n 0 9 m 0 9) (r := minus.r n 0 9 m 0 9) (b := minus.b n 0 9 m 0 9) (by unfold minus; dsimp only; omega) (by unfold minus; dsimp only; omega) (by unfold minus; dsimp only; omega) (by unfold minus; dsimp only; omega)]
    rfl
  · have e1 : ∀ m : Int, -4 ≤ m → m ≤ 4 → ¬ EvB m 0 9 := by
      rintro m h1 h2 ⟨⟨k, e⟩, _⟩
      omega
    have e2 : ¬ OdB (plus.t m 0 9 n 0 9) (plus.r m 0 9 n 0 9) (plus.b m 0 9 n 0 9) := by
      rintro ⟨_, k, e⟩
      have e : 2 * (0 * 9 + 0 * 9) = (2 * k + 1) * (9 * 9) := e
      omega
    have e3 : ¬ OdB (minus.t n 0 9 m 0 9) (minus.r n 0 9 m 0 9) (minus.b n 0 9 m 0 9) := by
      rintro ⟨_, k, e⟩
      have e : 2 * (0 * 9 - 0 * 9) = (2 * k + 1) * (9 * 9) := e
      omega
    unfold barV
    rw [decB_f (e1 n h3 h4), decB_f e2, decB_f (e1 m h1 h2), decB_f e3]
    rfl
abbrev s__law_spot : Stmt := top 55
theorem sc__law_spot : FnScope ["state", "kind", "wide", "x", "y", "fine"] ["state"] (defScope s__law_spot) := ⟨rfl, rfl, rfl, by decide +kernel, rfl, by decide +kernel, by decide +kernel⟩

def sp__law_spot (Z : Zs) : Sp := fun vs H Q E =>
  ∃ st sc, vs = [.ref st] ∧ StA H st sc ∧ ∀ u px py t r b t' r' b' H', SameX st H H' → StA H' st sc → H' u = some (.tup [.ref px, .ref py]) → T3 H' px t r b → T3 H' py t' r' b' → 0 < b → 0 < b' → Bw 63 b → Bw 63 b' → Bw 62 t → Bw 62 r → Bw 62 t' → Bw 62 r' → inside t r b t' r' b' = true → barV t r b t' r' b' = .non → Q (.ref u) H'
theorem ok__law_spot (T : Txt Z mg) (h__law_barred : Has P w Z.K mg base "_law_barred" 3 ["x", "y"] (sp__law_barred Z)) (h__law_inside : Has P w Z.K mg base "_law_inside" 3 ["x", "y"] (sp__law_inside Z)) (h__law_between : Has P w Z.K mg base "_law_between" 3 ["state", "least", "most"] (sp__law_between Z)) (h__law_draw : Has P w Z.K mg base "_law_draw" 2 ["state", "many"] (sp__law_draw Z)) (D : AtF Z.K mg "_law_spot" "_law_spot" s__law_spot ["state"]) : Has P w Z.K mg base "_law_spot" 4 ["state"] (sp__law_spot Z) := by
  refine D.ok sc__law_spot (fun vs H Q E h => ?_) (fun cdv A outer s H vs Q E hr h => ?_)
  · obtain ⟨st, sc, rfl, _⟩ := h
    rfl
  · refine ⟨_, (pss_cons (ps_set (i := 1) sc__law_spot.nd rfl (Or.inl rfl) (pe_h (E := ED E) h__law_draw hr (paW (takes_of rfl rfl rfl rfl)) (pa_cons (pv 0) (pa_cons pe_int pa_nil))))
      (C8.pss_cut (ps_if (pt_cmpR op_eq (pv 1) pe_int (nomark _)) (pss_cons (ps_set (i := 2) sc__law_spot.nd rfl (Or.inl rfl) (pe_op op_add (pe_op op_mulS pe_int (pe_h (E := ED E) h__law_draw hr (paW (takes_of rfl rfl rfl rfl)) (pa_cons (pv 0) (pa_cons pe_int pa_nil)))) pe_int))
      (pss_cons (ps_set (i := 3) sc__law_spot.nd rfl (Or.inl rfl) (pe_tup (pa_cons (pe_h (E := ED E) h__law_between hr (paW (takes_of rfl rfl rfl rfl)) (pa_cons (pv 0) (pa_cons (pe_un un_neg (pv 2)) (pa_cons (pv 2) pa_nil)))) (pa_cons pe_int (pa_cons (pv 2) pa_nil)))))
      (pss_one (ps_set (i := 4) sc__law_spot.nd rfl (Or.inl rfl) (pe_tup (pa_cons (pe_h (E := ED E) h__law_between hr (paW (takes_of rfl rfl rfl rfl)) (pa_cons (pv 0) (pa_cons (pe_un un_neg (pv 2)) (pa_cons (pv 2) pa_nil)))) (pa_cons pe_int (pa_cons (pv 2) pa_nil)))))))) (pss_one (ps_if (pt_cmpR op_eq (pv 1) pe_int (nomark _)) (pss_cons (ps_set (i := 5) sc__law_spot.nd rfl (Or.inl rfl) (pe_op op_pow pe_int pe_int))
      (C8.pss_cut (ps_if (pt_cmpR op_eq (pe_h (E := ED E) h__law_draw hr (paW (takes_of rfl rfl rfl rfl)) (pa_cons (pv 0) (pa_cons pe_int pa_nil))) pe_int (nomark _)) (pss_one (ps_set (i := 5) sc__law_spot.nd rfl (Or.inl rfl) (pe_op op_pow pe_int pe_int))) pss_nil)
      (pss_cons (ps_set (i := 3) sc__law_spot.nd rfl (Or.inl rfl) (pe_tup (pa_cons (pe_op op_add (pe_op op_mulS (pe_h (E := ED E) h__law_between hr (paW (takes_of rfl rfl rfl rfl)) (pa_cons (pv 0) (pa_cons (pe_un un_neg pe_int) (pa_cons pe_int pa_nil)))) (pv 5)) (pe_op op_mulS pe_int (pe_op op_sub (pe_op op_mulS pe_int (pe_h (E := ED E) h__law_draw hr (paW (takes_of rfl rfl rfl rfl)) (pa_cons (pv 0) (pa_cons pe_int pa_nil)))) pe_int))) (pa_cons pe_int (pa_cons (pe_op op_mulS pe_int (pv 5)) pa_nil)))))
      (pss_cons (ps_set (i := 3) sc__law_spot.nd rfl (Or.inl rfl) (pe_tup (pa_cons (pe_ix ix_seq (pv 3) pe_int (fun _ _ => rfl)) (pa_cons (pe_op op_mulS (pe_h (E := ED E) h__law_between hr (paW (takes_of rfl rfl rfl rfl)) (pa_cons (pv 0) (pa_cons (pe_un un_neg pe_int) (pa_cons pe_int pa_nil)))) (pv 5)) (pa_cons (pe_ix ix_seq (pv 3) pe_int (fun _ _ => rfl)) pa_nil)))))
      (pss_cons (ps_set (i := 4) sc__law_spot.nd rfl (Or.inl rfl) (pe_tup (pa_cons (pe_op op_add (pe_op op_mulS (pe_h (E := ED E) h__law_between hr (paW (takes_of rfl rfl rfl rfl)) (pa_cons (pv 0) (pa_cons (pe_un un_neg pe_int) (pa_cons pe_int pa_nil)))) (pv 5)) (pe_op op_mulS pe_int (pe_op op_sub (pe_op op_mulS pe_int (pe_h (E := ED E) h__law_draw hr (paW (takes_of rfl rfl rfl rfl)) (pa_cons (pv 0) (pa_cons pe_int pa_nil)))) pe_int))) (pa_cons pe_int (pa_cons (pe_op op_mulS pe_int (pv 5)) pa_nil)))))
      (pss_one (ps_set (i := 4) sc__law_spot.nd rfl (Or.inl rfl) (pe_tup (pa_cons (pe_ix ix_seq (pv 4) pe_int (fun _ _ => rfl)) (pa_cons (pe_op op_mulS (pe_h (E := ED E) h__law_between hr (paW (takes_of rfl rfl rfl rfl)) (pa_cons (pv 0) (pa_cons (pe_un un_neg pe_int) (pa_cons pe_int pa_nil)))) (pv 5)) (pa_cons (pe_ix ix_seq (pv 4) pe_int (fun _ _ => rfl)) pa_nil))))))))))) (pss_cons (ps_set (i := 2) sc__law_spot.nd rfl (Or.inl rfl) (pe_op op_add pe_int (pe_h (E := ED E) h__law_draw hr (paW (takes_of rfl rfl rfl rfl)) (pa_cons (pv 0) (pa_cons pe_int pa_nil)))))
      (C8.pss_cut (ps_if (pt_cmpR op_eq (pv 1) pe_int (nomark _)) (pss_one (ps_set (i := 2) sc__law_spot.nd rfl (Or.inl rfl) (pe_op op_add pe_int (pe_h (E := ED E) h__law_draw hr (paW (takes_of rfl rfl rfl rfl)) (pa_cons (pv 0) (pa_cons (pe_op op_pow pe_int pe_int) pa_nil)))))) pss_nil)
      (pss_cons (ps_set (i := 3) sc__law_spot.nd rfl (Or.inl rfl) (pe_tup (pa_cons (pe_h (E := ED E) h__law_between hr (paW (takes_of rfl rfl rfl rfl)) (pa_cons (pv 0) (pa_cons (pe_op op_mulS (pe_un un_neg pe_int) (pv 2)) (pa_cons (pe_op op_mulS pe_int (pv 2)) pa_nil)))) (pa_cons (pe_h (E := ED E) h__law_between hr (paW (takes_of rfl rfl rfl rfl)) (pa_cons (pv 0) (pa_cons (pe_un un_neg (pv 2)) (pa_cons (pv 2) pa_nil)))) (pa_cons (pv 2) pa_nil)))))
      (pss_one (ps_set (i := 4) sc__law_spot.nd rfl (Or.inl rfl) (pe_tup (pa_cons (pe_h (E := ED E) h__law_between hr (paW (takes_of rfl rfl rfl rfl)) (pa_cons (pv 0) (pa_cons (pe_op op_mulS (pe_un un_neg pe_int) (pv 2)) (pa_cons (pe_op op_mulS pe_int (pv 2)) pa_nil)))) (pa_cons (pe_h (E := ED E) h__law_between hr (paW (takes_of rfl rfl rfl rfl)) (pa_cons (pv 0) (pa_cons (pe_un un_neg (pv 2)) (pa_cons (pv 2) pa_nil)))) (pa_cons (pv 2) pa_nil))))))))))))
      (C8.pss_cut (ps_if (pt_not (pt_val (pe_h (E := ED E) h__law_inside hr (paW (takes_of rfl rfl rfl rfl)) (pa_cons (pv 3) (pa_cons (pv 4) pa_nil))))) (pss_cons (ps_set (i := 3) sc__law_spot.nd rfl (Or.inl rfl) (pe_tup (pa_cons (pe_ix ix_seq (pv 3) pe_int (fun _ _ => rfl)) (pa_cons (pe_ix ix_seq (pv 3) pe_int (fun _ _ => rfl)) (pa_cons (pe_op op_mulS pe_int (pe_ix ix_seq (pv 3) pe_int (fun _ _ => rfl))) pa_nil)))))
      (pss_one (ps_set (i := 4) sc__law_spot.nd rfl (Or.inl rfl) (pe_tup (pa_cons (pe_ix ix_seq (pv 4) pe_int (fun _ _ => rfl)) (pa_cons (pe_ix ix_seq (pv 4) pe_int (fun _ _ => rfl)) (pa_cons (pe_op op_mulS pe_int (pe_ix ix_seq (pv 4) pe_int (fun _ _ => rfl))) pa_nil))))))) pss_nil)
      (pss_cons (ps_if (pt_cmpR op_notN (pe_h (E := ED E) h__law_barred hr (paW (takes_of rfl rfl rfl rfl)) (pa_cons (pv 3) (pa_cons (pv 4) pa_nil))) pe_non (nomark _)) (pss_one (ps_ret (pe_tup (pa_cons (pe_tup (pa_cons (pe_op op_sub (pe_op op_mod (pe_callTy cn_int rfl T.n_int (by decide +kernel) (pa_cons (pe_ix ix_seq (pv 3) pe_int (fun _ _ => rfl)) pa_nil)) pe_int) pe_int) (pa_cons pe_int (pa_cons pe_int pa_nil)))) (pa_cons (pe_tup (pa_cons (pe_op op_sub (pe_op op_mod (pe_callTy cn_int rfl T.n_int (by decide +kernel) (pa_cons (pe_ix ix_seq (pv 4) pe_int (fun _ _ => rfl)) pa_nil)) pe_int) pe_int) (pa_cons pe_int (pa_cons pe_int pa_nil)))) pa_nil))))) pss_nil)
      (pss_one (ps_ret (pe_tup (pa_cons (pv 3) (pa_cons (pv 4) pa_nil))))))))), ?_⟩
    try simp only [cxOf]
    obtain ⟨st, sc, rfl, hs, q⟩ := h
    have e20 : (3 : Int) ^ Int.toNat 20 = 3486784401 := by decide
    have e3 : (3 : Int) ^ Int.toNat 3 = 27 := by decide
    have e18 : (10 : Int) ^ Int.toNat 18 = 1000000000000000000 := by decide
    walk_at "W"
    refine k_draw' hs (by decide) (by decide) fun kd H1 kd0 kd1 x1 hs1 => ?_
    walk_at "W"
    refine w_cut (fun σ' H' => ∃ z1 z2 px py w x0 y0 xx yy, σ' = [some (.ref st), some (.int kd), z1, some (.ref px), some (.ref py), z2] ∧ SameX st H H' ∧ StA H' st sc ∧ T3 H' px x0 xx w ∧ T3 H' py y0 yy w ∧ SpotB w x0 xx y0 yy) ?_ ?_
    · walk_at "W"
      refine w_ite (fun _ => ?_) (fun _ => ?_)
      · walk_at "W"
        refine k_draw' hs1 (by decide) (by decide) fun n H2 n0 n1 x2 hs2 => ?_
        walk_at "W"
        refine k_between' hs2 (by omega) (by omega) fun a H3 l3 g3 x3 hs3 => ?_
        walk_at "W"
        refine k_tup rfl fun px H4 hpx s4 e4 => ?_
        have hs4 := hs3.same s4
        walk_at "W"
        refine k_between' hs4 (by omega) (by omega) fun c H5 l5 g5 x5 hs5 => ?_
        walk_at "W"
        refine k_tup rfl fun py H6 hpy s6 e6 => ?_
        walk_at "W"
        exact ⟨_, _, px, py, _, _, _, _, _, rfl, x1.trans (x2.trans (x3.trans ((Same.x s4).trans (x5.trans (Same.x s6))))), hs5.same s6, s6 _ _ ((Kps.st hs4 x5).tup e4), e6, ⟨by omega, by omega, by omega, by omega, by omega, by omega, by omega, by omega, by omega, by omega⟩⟩
      walk_at "W"
      refine w_ite (fun _ => ?_) (fun _ => ?_)
      · walk_at "W"
        rw [e20]
        refine w_cut (fun σ' H' => ∃ fi : Int, σ' = [some (.ref st), some (.int kd), none, none, none, some (.int fi)] ∧ SameX st H1 H' ∧ StA H' st sc ∧ (fi = 3486784401 ∨ fi = 27)) ?_ ?_
        · walk_at "W"
          refine k_draw' hs1 (by decide) (by decide) fun n H2 n0 n1 x2 hs2 => ?_
          walk_at "W"
          refine w_ite (fun _ => ?_) (fun _ => ?_)
          · walk_at "W"
            rw [e3]
            exact ⟨_, rfl, x2, hs2, .inr rfl⟩
          · walk_at "W"
            exact ⟨_, rfl, x2, hs2, .inl rfl⟩
        rintro σ' H2 ⟨fi, rfl, x2, hs2, hfi⟩
        have f1 : 27 ≤ fi := by rcases hfi with rfl | rfl <;> decide
        have f2 : fi ≤ 3486784401 := by rcases hfi with rfl | rfl <;> decide
        have fm : ∀ {a : Int}, -2 ≤ a → a ≤ 2 → -(2 * fi) ≤ a * fi ∧ a * fi ≤ 2 * fi := fun {a} h1 h2 => by
          have : a = -2 ∨ a = -1 ∨ a = 0 ∨ a = 1 ∨ a = 2 := by omega
          rcases this with rfl | rfl | rfl | rfl | rfl <;> constructor <;> omega
        have fn : ∀ {a : Int}, -1 ≤ a → a ≤ 1 → -fi ≤ a * fi ∧ a * fi ≤ fi := fun {a} h1 h2 => by
          have : a = -1 ∨ a = 0 ∨ a = 1 := by omega
          rcases this with rfl | rfl | rfl <;> constructor <;> omega
        walk_at "W"
        refine k_between' hs2 (by decide) (by decide) fun a H3 l3 g3 x3 hs3 => ?_
        walk_at "W"
        refine k_draw' hs3 (by decide) (by decide) fun d1 H4 d10 d11 x4 hs4 => ?_
        walk_at "W"
        refine k_tup rfl fun p1 H5 hp1 s5 e5 => ?_
        have hs5 := hs4.same s5
        walk_at "W"
        refine k_between' hs5 (by decide) (by decide) fun c H6 l6 g6 x6 hs6 => ?_
        have e5 := (Kps.st hs5 x6).tup e5
        walk_at "W"
        refine k_tup rfl fun p2 H7 hp2 s7 e7 => ?_
        have hs7 := hs6.same s7
        walk_at "W"
        refine k_between' hs7 (by decide) (by decide) fun a2 H8 l8 g8 x8 hs8 => ?_
        walk_at "W"
        refine k_draw' hs8 (by decide) (by decide) fun d2 H9 d20 d21 x9 hs9 => ?_
        have e7 := (Kps.st hs8 x9).tup ((Kps.st hs7 x8).tup e7)
        walk_at "W"
        refine k_tup rfl fun p3 H10 hp3 s10 e10 => ?_
        have hs10 := hs9.same s10
        have e7 := s10 _ _ e7
        walk_at "W"
        refine k_between' hs10 (by decide) (by decide) fun c2 H11 l11 g11 x11 hs11 => ?_
        have e10 := (Kps.st hs10 x11).tup e10
        have e7 := (Kps.st hs10 x11).tup e7
        walk_at "W"
        refine k_tup rfl fun p4 H12 hp4 s12 e12 => ?_
        walk_at "W"
        have m1 := fm l3 g3
        have m2 := fm l8 g8
        have m3 := fn l6 g6
        have m4 := fn l11 g11
        exact ⟨_, _, p2, p4, _, _, _, _, _, rfl, x1.trans (x2.trans (x3.trans (x4.trans ((Same.x s5).trans (x6.trans ((Same.x s7).trans (x8.trans (x9.trans ((Same.x s10).trans (x11.trans (Same.x s12))))))))))), hs11.same s12, s12 _ _ e7, e12, ⟨by omega, by omega, by omega, by omega, by omega, by omega, by omega, by omega, by omega, by omega⟩⟩
      · walk_at "W"
        refine k_draw' hs1 (by decide) (by decide) fun n H2 n0 n1 x2 hs2 => ?_
        walk_at "W"
        refine w_cut (fun σ' H' => ∃ wi : Int, σ' = [some (.ref st), some (.int kd), some (.int wi), none, none, none] ∧ SameX st H1 H' ∧ StA H' st sc ∧ 1 ≤ wi ∧ wi ≤ 1000000000000000000) ?_ ?_
        · walk_at "W"
          refine w_ite (fun _ => ?_) (fun _ => ?_)
          · walk_at "W"
            rw [e18]
            refine ⟨st, sc, _, rfl, hs2, by decide, (bw_of (n := 10 ^ 18) (k := 60) (by decide) (by decide)).bd (by decide), fun n3 H3 n30 n31 x3 hs3 => ?_⟩
            walk_at "W"
            exact ⟨_, rfl, x2.trans x3, hs3, by omega, by omega⟩
          · walk_at "W"
            exact ⟨_, rfl, x2, hs2, by omega, by omega⟩
        rintro σ' H3 ⟨wi, rfl, x3, hs3, wi1, wi2⟩
        walk_at "W"
        refine k_between' hs3 (by omega) (by omega) fun a H4 l4 g4 x4 hs4 => ?_
        walk_at "W"
        refine k_between' hs4 (by omega) (by omega) fun c H5 l5 g5 x5 hs5 => ?_
        walk_at "W"
        refine k_tup rfl fun p1 H6 hp1 s6 e6 => ?_
        have hs6 := hs5.same s6
        walk_at "W"
        refine k_between' hs6 (by omega) (by omega) fun a2 H7 l7 g7 x7 hs7 => ?_
        walk_at "W"
        refine k_between' hs7 (by omega) (by omega) fun c2 H8 l8 g8 x8 hs8 => ?_
        have e6 := (Kps.st hs7 x8).tup ((Kps.st hs6 x7).tup e6)
        walk_at "W"
        refine k_tup rfl fun p2 H9 hp2 s9 e9 => ?_
        walk_at "W"
        exact ⟨_, _, p1, p2, _, _, _, _, _, rfl, x1.trans (x3.trans (x4.trans (x5.trans ((Same.x s6).trans (x7.trans (x8.trans (Same.x s9))))))), hs8.same s9, s9 _ _ e6, e9, ⟨by omega, by omega, by omega, by omega, by omega, by omega, by omega, by omega, by omega, by omega⟩⟩
    rintro σ' H2 ⟨z1, z2, px, py, w, x0, y0, xx, yy, rfl, x2, hs2, hx, hy, sb⟩
    have sb' := sb
    obtain ⟨p, m, a1, a2, a3, a4, b1, b2, b3, b4⟩ := sb'
    have bw : ∀ {z : Int}, -2000000000000000000 ≤ z → z ≤ 2000000000000000000 → Bw 61 z := fun h1 h2 => bw_of (n := 2000000000000000000) (by omega) (by decide)
    have t1 : Bw 61 x0 := bw (by omega) (by omega)
    have t2 : Bw 61 xx := bw (by omega) (by omega)
    have t3 : Bw 61 y0 := bw (by omega) (by omega)
    have t4 : Bw 61 yy := bw (by omega) (by omega)
    have t5 : Bw 61 w := bw (by omega) (by omega)
    have u4 : ∀ {z : Int}, Bw 61 z → Bw 450 z := fun h => h.mono (by decide)
    unfold T3 at hx hy
    walk_at "W"
    refine w_cut (fun σ' H' => ∃ px py b, σ' = [some (.ref st), some (.int kd), z1, some (.ref px), some (.ref py), z2] ∧ Same H2 H' ∧ T3 H' px x0 xx b ∧ T3 H' py y0 yy b ∧ 0 < b ∧ Bw 63 b ∧ inside x0 xx b y0 yy b = true) ?_ ?_
    · walk_at "W"
      refine ⟨px, py, _, _, _, _, _, _, rfl, hx, hy, u4 t1, u4 t2, u4 t5, u4 t3, u4 t4, u4 t5, fun H3 s3 => ?_⟩
      have hx3 := s3 _ _ hx
      have hy3 := s3 _ _ hy
      cases ei : inside x0 xx w y0 yy w
      · walk_at "W"
        refine k_tup rfl fun q1 H4 hq1 s4 e4 => ?_
        have hy4 := s4 _ _ hy3
        walk_at "W"
        refine k_tup rfl fun q2 H5 hq2 s5 e5 => ?_
        walk_at "W"
        exact ⟨q1, q2, 5 * w, rfl, s3.trans (s4.trans s5), s5 _ _ e4, e5, by omega, bw_of (n := 5000000000000000000) (by omega) (by decide), spot_fifth sb⟩
      · walk_at "W"
        exact ⟨px, py, w, rfl, s3, hx3, hy3, p, t5.mono (by decide), ei⟩
    rintro σ' H3 ⟨px, py, b, rfl, s3, hx, hy, pb, wb, ins⟩
    have hs3 := hs2.same s3
    have X3 := x2.trans (Same.x s3)
    walk_at "W"
    refine ⟨px, py, _, _, _, _, _, _, rfl, hx, hy, pb, pb, u4 t1, u4 t2, wb.mono (by decide), u4 t3, u4 t4, wb.mono (by decide), fun H4 s4 => ?_⟩
    have hx := s4 _ _ hx
    have hy := s4 _ _ hy
    by_cases nb : barV x0 xx b y0 yy b = .non
    · rw [nb]
      walk_at "W"
      exact k_tup rfl fun u H5 hu s5 e5 => q u px py _ _ _ _ _ _ H5 (X3.trans (Same.x (s4.trans s5))) (hs3.same (s4.trans s5)) e5 (s5 _ _ hx) (s5 _ _ hy) pb pb wb wb (t1.mono (by decide)) (t2.mono (by decide)) (t3.mono (by decide)) (t4.mono (by decide)) ins nb
    · walk_at "W"
      rw [decide_eq_false nb]
      unfold T3 at hx hy
      walk_at "W"
      refine k_tup rfl fun q1 H5 hq1 s5 e5 => ?_
      have hy5 := s5 _ _ hy
      walk_at "W"
      refine k_tup rfl fun q2 H6 hq2 s6 e6 => ?_
      walk_at "W"
      have o := spot_ninth (m := x0 % 9 - 4) (n := y0 % 9 - 4) (by omega) (by omega) (by omega) (by omega)
      have w9 : Bw 63 (9 : Int) := by unfold Bw; decide
      have w4 : ∀ {z : Int}, -4 ≤ z → z ≤ 4 → Bw 62 z := fun h1 h2 => bw_of (n := 4) (by omega) (by decide)
      exact k_tup rfl fun u H7 hu s7 e7 => q u q1 q2 _ _ _ _ _ _ H7 (X3.trans (Same.x (s4.trans (s5.trans (s6.trans s7))))) (hs3.same (s4.trans (s5.trans (s6.trans s7)))) e7 (s7 _ _ (s6 _ _ e5)) (s7 _ _ e6) (by decide) (by decide) w9 w9 (w4 (by omega) (by omega)) (Bw.zero.mono (by decide)) (w4 (by omega) (by omega)) (Bw.zero.mono (by decide)) o.1 o.2
theorem bw_dbl {n : Nat} {x : Int} (h : Bw n x) : Bw (n + 1) (2 * x) := by
  unfold Bw at *
  rw [Int.natAbs_mul, Nat.pow_succ, show (2 : Int).natAbs = 2 from rfl]
  omega
/-- a shift that a law has made: a corner's star less a spot -/
structure ShB (T R B T' R' B' : Int) : Prop where
  p : 0 < B
  p' : 0 < B'
  wB : Bw 64 B
  wB' : Bw 64 B'
  wT : Bw 280 T
  wR : Bw 280 R
  wT' : Bw 280 T'
  wR' : Bw 280 R'
  nb : barV T R B T' R' B' = .non
theorem low_bw {n : Nat} {T R B : Int} (hB : B ≠ 0) (wT : Bw n T) (wR : Bw n R) (wB : Bw 64 B) : Bw n (lowT T R B) ∧ Bw n (lowR T R B) ∧ Bw 64 (lowB T R B) := by
  obtain ⟨s, hs, e1, e2, e3⟩ := (low_is (t := T) (r := R) hB).s
  exact ⟨bw_div wT e1 hs, bw_div wR e2 hs, bw_div wB e3 hs⟩
theorem k_floor {w : Addr} {x y : V} {T R B T' R' B' : Int} {H : Hp} {Q : VK} {E : XK} (sb : ShB T R B T' R' B') (hw : H w = some (.tup [x, y])) (hx : NumAt Z.c_Root H x (lowT T R B) (lowR T R B) (lowB T R B)) (hy : NumAt Z.c_Root H y (lowT T' R' B') (lowR T' R' B') (lowB T' R' B'))
    (ok : ∀ v H', Same H H' → FloorAt Z H' v (lowT T R B) (lowR T R B) (lowB T R B) (lowT T' R' B') (lowR T' R' B') (lowB T' R' B') → Q v H') : MkC Z.c_Floor (sp_Floor_init Z) E [.ref w] H Q := by
  obtain ⟨p, p', wB, wB', wT, wR, wT', wR', nb⟩ := sb
  have n1 : B ≠ 0 := by omega
  have n2 : B' ≠ 0 := by omega
  obtain ⟨a1, a2, a3⟩ := low_bw n1 wT wR wB
  obtain ⟨b1, b2, b3⟩ := low_bw n2 wT' wR' wB'
  exact k_mkFloor hw hx hy (Sm.low n1 (wT.mono (by decide)) (wR.mono (by decide)) (wB.mono (by decide))) (Sm.low n2 (wT'.mono (by decide)) (wR'.mono (by decide)) (wB'.mono (by decide))) a3 b3 (a1.mono (by decide)) (a2.mono (by decide)) (b1.mono (by decide)) (b2.mono (by decide)) (by rw [bar_low n1 n2]; exact nb) ok
abbrev s__law_shift : Stmt := top 57
theorem sc__law_shift : FnScope ["corner", "spot", "x", "y"] ["corner", "spot"] (defScope s__law_shift) := ⟨rfl, rfl, rfl, by decide +kernel, rfl, by decide +kernel, by decide +kernel⟩

def sp__law_shift (Z : Zs) : Sp := fun vs H Q E =>
  ∃ p c u px py t r b t' r' b', vs = [.ref p, .ref u] ∧ H p = some (.tup [.int (c : C4).a, .int c.b, .int c.c, .int c.d]) ∧ C4.bw 200 c ∧ H u = some (.tup [.ref px, .ref py]) ∧ T3 H px t r b ∧ T3 H py t' r' b' ∧ Bw 63 t ∧ Bw 63 r ∧ Bw 63 b ∧ Bw 63 t' ∧ Bw 63 r' ∧ Bw 63 b' ∧
    ∀ w q1 q2 H', Same H H' → H' w = some (.tup [.ref q1, .ref q2]) → T3 H' q1 (minus.t (2 * (conj c).a) ((conj c).b - (conj c).d) 2 t r b) (minus.r (2 * (conj c).a) ((conj c).b - (conj c).d) 2 t r b) (minus.b (2 * (conj c).a) ((conj c).b - (conj c).d) 2 t r b) →
      T3 H' q2 (minus.t (2 * (conj c).c) ((conj c).b + (conj c).d) 2 t' r' b') (minus.r (2 * (conj c).c) ((conj c).b + (conj c).d) 2 t' r' b') (minus.b (2 * (conj c).c) ((conj c).b + (conj c).d) 2 t' r' b') → Q (.ref w) H'
theorem ok__law_shift (T : Txt Z mg) (h__law_minus : Has P w Z.K mg base "_law_minus" 1 ["one", "other"] (sp__law_minus Z)) (h__law_star : Has P w Z.K mg base "_law_star" 1 ["corner"] (sp__law_star Z)) (D : AtF Z.K mg "_law_shift" "_law_shift" s__law_shift ["corner", "spot"]) : Has P w Z.K mg base "_law_shift" 2 ["corner", "spot"] (sp__law_shift Z) := by
  refine D.ok sc__law_shift (fun vs H Q E h => ?_) (fun cdv A outer s H vs Q E hr h => ?_)
  · obtain ⟨p, c, u, px, py, t, r, b, t', r', b', rfl, _⟩ := h
    rfl
  · refine ⟨_, (pss_cons (ps_asg (pe_h (E := ED E) h__law_star hr (paW (takes_of rfl rfl rfl rfl)) (pa_cons (pv 0) pa_nil)) (pg_tup rfl (pgs_cons (pg_name (i := 2) sc__law_shift.nd rfl (Or.inl rfl)) (pgs_cons (pg_name (i := 3) sc__law_shift.nd rfl (Or.inl rfl)) pgs_nil))))
      (pss_one (ps_ret (pe_tup (pa_cons (pe_h (E := ED E) h__law_minus hr (paW (takes_of rfl rfl rfl rfl)) (pa_cons (pv 2) (pa_cons (pe_ix ix_seq (pv 1) pe_int (fun _ _ => rfl)) pa_nil))) (pa_cons (pe_h (E := ED E) h__law_minus hr (paW (takes_of rfl rfl rfl rfl)) (pa_cons (pv 3) (pa_cons (pe_ix ix_seq (pv 1) pe_int (fun _ _ => rfl)) pa_nil))) pa_nil)))))), ?_⟩
    try simp only [cxOf]
    obtain ⟨p, c, u, px, py, t, r, b, t', r', b', rfl, hp, wc, hu, h1, h2, w1, w2, w3, w4, w5, w6, q⟩ := h
    have up : ∀ {x : Int}, Bw 63 x → Bw 1000 x := fun h => h.mono (by decide)
    have wj : C4.bw 200 (conj c) := ⟨wc.1, wc.2.2.2, wc.2.2.1.neg, wc.2.1⟩
    have B1 : B3 (2 * (conj c).a) ((conj c).b - (conj c).d) 2 := ⟨(Bw.two.mul wj.1).mono (by decide), (wj.2.1.sub wj.2.2.2).mono (by decide), Bw.two.mono (by decide)⟩
    have B2 : B3 (2 * (conj c).c) ((conj c).b + (conj c).d) 2 := ⟨(Bw.two.mul wj.2.2.1).mono (by decide), (wj.2.1.add wj.2.2.2).mono (by decide), Bw.two.mono (by decide)⟩
    walk_at "W"
    refine ⟨p, c, rfl, .inr hp, fun u1 H1 s1 hpl => ?_⟩
    obtain ⟨a1, a2, e1, g1, g2⟩ := hpl
    refine k_tupl2 e1 rfl rfl ?_
    have hu1 := s1 _ _ hu
    walk_at "W"
    refine ⟨a1, px, _, _, _, _, _, _, rfl, g1, s1 _ _ h1, B1, ⟨up w1, up w2, up w3⟩, fun q1 H2 z2 s2 e2 => ?_⟩
    have hu2 := s2 _ _ hu1
    walk_at "W"
    refine ⟨a2, py, _, _, _, _, _, _, rfl, s2 _ _ g2, s2 _ _ (s1 _ _ h2), B2, ⟨up w4, up w5, up w6⟩, fun q2 H3 z3 s3 e3 => ?_⟩
    walk_at "W"
    exact k_tup rfl fun w H4 hw s4 e4 => q w q1 q2 H4 (s1.trans (s2.trans (s3.trans s4))) e4 (s4 _ _ (s3 _ _ e2)) (s4 _ _ e3)
abbrev s__law_has : Stmt := top 59
theorem sc__law_has : FnScope ["shift", "corner", "x", "y"] ["shift", "corner"] (defScope s__law_has) := ⟨rfl, rfl, rfl, by decide +kernel, rfl, by decide +kernel, by decide +kernel⟩

def sp__law_has (Z : Zs) : Sp := fun vs H Q E =>
  ∃ w p c q1 q2 t r b t' r' b', vs = [.ref w, .ref p] ∧ H w = some (.tup [.ref q1, .ref q2]) ∧ T3 H q1 t r b ∧ T3 H q2 t' r' b' ∧ Bw 280 t ∧ Bw 280 r ∧ Bw 100 b ∧ Bw 280 t' ∧ Bw 280 r' ∧ Bw 100 b' ∧ H p = some (.tup [.int (c : C4).a, .int c.b, .int c.c, .int c.d]) ∧ C4.bw 130 c ∧
    ∀ H', Same H H' → Q (.bl (inside (minus.t (2 * (conj c).a) ((conj c).b - (conj c).d) 2 t r b) (minus.r (2 * (conj c).a) ((conj c).b - (conj c).d) 2 t r b) (minus.b (2 * (conj c).a) ((conj c).b - (conj c).d) 2 t r b)
        (minus.t (2 * (conj c).c) ((conj c).b + (conj c).d) 2 t' r' b') (minus.r (2 * (conj c).c) ((conj c).b + (conj c).d) 2 t' r' b') (minus.b (2 * (conj c).c) ((conj c).b + (conj c).d) 2 t' r' b'))) H'
theorem ok__law_has (T : Txt Z mg) (h__law_inside : Has P w Z.K mg base "_law_inside" 3 ["x", "y"] (sp__law_inside Z)) (h__law_minus : Has P w Z.K mg base "_law_minus" 1 ["one", "other"] (sp__law_minus Z)) (h__law_star : Has P w Z.K mg base "_law_star" 1 ["corner"] (sp__law_star Z)) (D : AtF Z.K mg "_law_has" "_law_has" s__law_has ["shift", "corner"]) : Has P w Z.K mg base "_law_has" 4 ["shift", "corner"] (sp__law_has Z) := by
  refine D.ok sc__law_has (fun vs H Q E h => ?_) (fun cdv A outer s H vs Q E hr h => ?_)
  · obtain ⟨w, p, c, q1, q2, t, r, b, t', r', b', rfl, _⟩ := h
    rfl
  · refine ⟨_, (pss_cons (ps_asg (pe_h (E := ED E) h__law_star hr (paW (takes_of rfl rfl rfl rfl)) (pa_cons (pv 1) pa_nil)) (pg_tup rfl (pgs_cons (pg_name (i := 2) sc__law_has.nd rfl (Or.inl rfl)) (pgs_cons (pg_name (i := 3) sc__law_has.nd rfl (Or.inl rfl)) pgs_nil))))
      (pss_one (ps_ret (pe_h (E := ED E) h__law_inside hr (paW (takes_of rfl rfl rfl rfl)) (pa_cons (pe_h (E := ED E) h__law_minus hr (paW (takes_of rfl rfl rfl rfl)) (pa_cons (pv 2) (pa_cons (pe_ix ix_seq (pv 0) pe_int (fun _ _ => rfl)) pa_nil))) (pa_cons (pe_h (E := ED E) h__law_minus hr (paW (takes_of rfl rfl rfl rfl)) (pa_cons (pv 3) (pa_cons (pe_ix ix_seq (pv 0) pe_int (fun _ _ => rfl)) pa_nil))) pa_nil)))))), ?_⟩
    try simp only [cxOf]
    obtain ⟨w, p, c, q1, q2, t, r, b, t', r', b', rfl, hw, h1, h2, w1, w2, w3, w4, w5, w6, hp, wc, q⟩ := h
    have up : ∀ {n : Nat} {x : Int}, Bw n x → n ≤ 1000 → Bw 1000 x := fun h l => h.mono l
    have wj : C4.bw 130 (conj c) := ⟨wc.1, wc.2.2.2, wc.2.2.1.neg, wc.2.1⟩
    have v1 := Bw.two.mul wj.1
    have v2 := wj.2.1.sub wj.2.2.2
    have v3 := Bw.two.mul wj.2.2.1
    have v4 := wj.2.1.add wj.2.2.2
    walk_at "W"
    refine ⟨p, c, rfl, .inr hp, fun u1 H1 s1 hpl => ?_⟩
    obtain ⟨a1, a2, e1, g1, g2⟩ := hpl
    refine k_tupl2 e1 rfl rfl ?_
    have hw1 := s1 _ _ hw
    walk_at "W"
    refine ⟨a1, q1, _, _, _, _, _, _, rfl, g1, s1 _ _ h1, ⟨up v1 (by decide), up v2 (by decide), up Bw.two (by decide)⟩, ⟨up w1 (by decide), up w2 (by decide), up w3 (by decide)⟩, fun z1 H2 f2 s2 e2 => ?_⟩
    have hw2 := s2 _ _ hw1
    walk_at "W"
    refine ⟨a2, q2, _, _, _, _, _, _, rfl, s2 _ _ g2, s2 _ _ (s1 _ _ h2), ⟨up v3 (by decide), up v4 (by decide), up Bw.two (by decide)⟩, ⟨up w4 (by decide), up w5 (by decide), up w6 (by decide)⟩, fun z2 H3 f3 s3 e3 => ?_⟩
    walk_at "W"
    exact ⟨z1, z2, _, _, _, _, _, _, rfl, s3 _ _ e2, e3, ((v1.mul w3).sub (w1.mul Bw.two)).mono (by decide), ((v2.mul w3).sub (w2.mul Bw.two)).mono (by decide), (Bw.two.mul w3).mono (by decide), ((v3.mul w6).sub (w4.mul Bw.two)).mono (by decide), ((v4.mul w6).sub (w5.mul Bw.two)).mono (by decide), (Bw.two.mul w6).mono (by decide), fun H4 s4 => q H4 (s1.trans (s2.trans (s3.trans s4)))⟩
/-- what a floor of a told shift says of a corner -/
def hasB (T R B T' R' B' : Int) (c : C4) : Bool :=
  inside (minus.t (2 * (conj c).a) ((conj c).b - (conj c).d) 2 T R B) (minus.r (2 * (conj c).a) ((conj c).b - (conj c).d) 2 T R B) (minus.b (2 * (conj c).a) ((conj c).b - (conj c).d) 2 T R B)
      (minus.t (2 * (conj c).c) ((conj c).b + (conj c).d) 2 T' R' B') (minus.r (2 * (conj c).c) ((conj c).b + (conj c).d) 2 T' R' B') (minus.b (2 * (conj c).c) ((conj c).b + (conj c).d) 2 T' R' B')
theorem inW_has {T R B T' R' B' D X1 X2 Y1 Y2 : Int} (p : 0 < B) (p' : 0 < B') (G : Gau D X1 X2 Y1 Y2 (lowT T R B) (lowR T R B) (lowB T R B) (lowT T' R' B') (lowR T' R' B') (lowB T' R' B')) (c : C4) : inW D X1 X2 Y1 Y2 c = hasB T R B T' R' B' c := by
  rw [inW_inside G (low_is (by omega)).pos (low_is (by omega)).pos]
  obtain ⟨s, hs, e1, e2, e3⟩ := low_pos (t := T) (r := R) p
  obtain ⟨s', hs', e1', e2', e3'⟩ := low_pos (t := T') (r := R') p'
  unfold hasB
  refine inside_congr (s := s) (z := 1) (s' := s') (z' := 1) hs hs' (by decide) (by decide) ?_ ?_ ?_ ?_ ?_ ?_
  · show (2 * (conj c).a * lowB T R B - lowT T R B * 2) * s = (2 * (conj c).a * B - T * 2) * 1
    grind
  · show (((conj c).b - (conj c).d) * lowB T R B - lowR T R B * 2) * s = (((conj c).b - (conj c).d) * B - R * 2) * 1
    grind
  · show 2 * lowB T R B * s = 2 * B * 1
    grind
  · show (2 * (conj c).c * lowB T' R' B' - lowT T' R' B' * 2) * s' = (2 * (conj c).c * B' - T' * 2) * 1
    grind
  · show (((conj c).b + (conj c).d) * lowB T' R' B' - lowR T' R' B' * 2) * s' = (((conj c).b + (conj c).d) * B' - R' * 2) * 1
    grind
  · show 2 * lowB T' R' B' * s' = 2 * B' * 1
    grind
theorem has_self {t r b t' r' b' : Int} (c : C4) (ins : inside t r b t' r' b' = true) : hasB (minus.t (2 * (conj c).a) ((conj c).b - (conj c).d) 2 t r b) (minus.r (2 * (conj c).a) ((conj c).b - (conj c).d) 2 t r b) (minus.b (2 * (conj c).a) ((conj c).b - (conj c).d) 2 t r b)
    (minus.t (2 * (conj c).c) ((conj c).b + (conj c).d) 2 t' r' b') (minus.r (2 * (conj c).c) ((conj c).b + (conj c).d) 2 t' r' b') (minus.b (2 * (conj c).c) ((conj c).b + (conj c).d) 2 t' r' b') c = true := by
  unfold hasB
  rw [inside_congr (p := t) (q := r) (a := b) (p' := t') (q' := r') (a' := b') (s := 1) (z := 4) (s' := 1) (z' := 4) (by decide) (by decide) (by decide) (by decide) ?_ ?_ ?_ ?_ ?_ ?_]
  · exact ins
  · show (2 * (conj c).a * (2 * b) - (2 * (conj c).a * b - t * 2) * 2) * 1 = t * 4
    grind
  · show (((conj c).b - (conj c).d) * (2 * b) - (((conj c).b - (conj c).d) * b - r * 2) * 2) * 1 = r * 4
    grind
  · show 2 * (2 * b) * 1 = b * 4
    grind
  · show (2 * (conj c).c * (2 * b') - (2 * (conj c).c * b' - t' * 2) * 2) * 1 = t' * 4
    grind
  · show (((conj c).b + (conj c).d) * (2 * b') - (((conj c).b + (conj c).d) * b' - r' * 2) * 2) * 1 = r' * 4
    grind
  · show 2 * (2 * b') * 1 = b' * 4
    grind
theorem sh_of {t r b t' r' b' : Int} {c : C4} (wc : C4.bw 130 c) (pb : 0 < b) (pb' : 0 < b') (w1 : Bw 63 b) (w2 : Bw 63 b') (w3 : Bw 62 t) (w4 : Bw 62 r) (w5 : Bw 62 t') (w6 : Bw 62 r') (nb : barV t r b t' r' b' = .non) :
    ShB (minus.t (2 * (conj c).a) ((conj c).b - (conj c).d) 2 t r b) (minus.r (2 * (conj c).a) ((conj c).b - (conj c).d) 2 t r b) (minus.b (2 * (conj c).a) ((conj c).b - (conj c).d) 2 t r b)
      (minus.t (2 * (conj c).c) ((conj c).b + (conj c).d) 2 t' r' b') (minus.r (2 * (conj c).c) ((conj c).b + (conj c).d) 2 t' r' b') (minus.b (2 * (conj c).c) ((conj c).b + (conj c).d) 2 t' r' b') := by
  have wj : C4.bw 130 (conj c) := ⟨wc.1, wc.2.2.2, wc.2.2.1.neg, wc.2.1⟩
  refine ⟨Int.mul_pos (by decide) pb, Int.mul_pos (by decide) pb', bw_dbl w1, bw_dbl w2, ((Bw.two.mul wj.1 |>.mul w1).sub (w3.mul Bw.two)).mono (by decide), ((wj.2.1.sub wj.2.2.2 |>.mul w1).sub (w4.mul Bw.two)).mono (by decide), ((Bw.two.mul wj.2.2.1 |>.mul w2).sub (w5.mul Bw.two)).mono (by decide), ((wj.2.1.add wj.2.2.2 |>.mul w2).sub (w6.mul Bw.two)).mono (by decide), ?_⟩
  rw [bar_star (by omega) (by omega)]
  exact nb
/-- the law's shift -/
def ShAt (H : Hp) (w : Addr) (T R B T' R' B' : Int) : Prop := ∃ q1 q2, H w = some (.tup [.ref q1, .ref q2]) ∧ T3 H q1 T R B ∧ T3 H q2 T' R' B'
theorem ShAt.kps {H H' : Hp} {w : Addr} {T R B T' R' B' : Int} (h : ShAt H w T R B T' R' B') (k : Kps H H') : ShAt H' w T R B T' R' B' := by
  obtain ⟨q1, q2, a, b, c⟩ := h
  exact ⟨q1, q2, k.tup a, k.tup b, k.tup c⟩
/-- floor.has_corner(corner) of a right corner -/
theorem k_has {v o : V} {T R B T' R' B' : Int} {H : Hp} {Q : VK} {E : XK} {c : C4} (hf : FloorAt Z H v (lowT T R B) (lowR T R B) (lowB T R B) (lowT T' R' B') (lowR T' R' B') (lowB T' R' B')) (p : 0 < B) (p' : 0 < B') (hc : CorAt H o c) (wc : C4.bw 130 c)
    (q : ∀ H', Same H H' → Q (.bl (hasB T R B T' R' B' c)) H') : sp_Floor_has_corner Z [v, o] H Q E :=
  ⟨v, o, _, _, _, _, _, _, rfl, hf, .inl ⟨c, hc, ⟨wc.1.mono (by decide), wc.2.1.mono (by decide), wc.2.2.1.mono (by decide), wc.2.2.2.mono (by decide)⟩, fun D X1 X2 Y1 Y2 H' s G => by rw [inW_has p p' G]; exact q H' s⟩⟩
theorem k_lhas {w : Addr} {o : Addr} {T R B T' R' B' : Int} {H : Hp} {Q : VK} {E : XK} {c : C4} (hs : ShAt H w T R B T' R' B') (sb : ShB T R B T' R' B') (hc : H o = some (.tup [.int c.a, .int c.b, .int c.c, .int c.d])) (wc : C4.bw 130 c)
    (q : ∀ H', Same H H' → Q (.bl (hasB T R B T' R' B' c)) H') : sp__law_has Z [.ref w, .ref o] H Q E := by
  obtain ⟨q1, q2, a, b, d⟩ := hs
  exact ⟨w, o, c, q1, q2, T, R, B, T', R', B', rfl, a, b, d, sb.wT, sb.wR, sb.wB.mono (by decide), sb.wT', sb.wR', sb.wB'.mono (by decide), hc, wc, q⟩
/-- the rows of corners that a law has made -/
def Cors (H : Hp) (vs : List V) : Prop := ∀ v ∈ vs, ∃ (p : Addr) (C : C4), v = .ref p ∧ H p = some (.tup [.int C.a, .int C.b, .int C.c, .int C.d]) ∧ C4.bw 100 C
theorem Cors.kps {H H' : Hp} {vs : List V} (h : Cors H vs) (k : Kps H H') : Cors H' vs := fun v hv => by
  obtain ⟨p, C, e, a, b⟩ := h v hv
  exact ⟨p, C, e, k.tup a, b⟩
theorem c4_100 {c : C4} (h : C4.bw 100 c) : C4.bw 130 c := ⟨h.1.mono (by decide), h.2.1.mono (by decide), h.2.2.1.mono (by decide), h.2.2.2.mono (by decide)⟩
theorem c4_84 {c : C4} (h : C4.bw 84 c) : C4.bw 130 c := ⟨h.1.mono (by decide), h.2.1.mono (by decide), h.2.2.1.mono (by decide), h.2.2.2.mono (by decide)⟩
theorem c4_200 {c : C4} (h : C4.bw 130 c) : C4.bw 200 c := ⟨h.1.mono (by decide), h.2.1.mono (by decide), h.2.2.1.mono (by decide), h.2.2.2.mono (by decide)⟩
-- needs W24
local macro_rules | `(tactic| walk_at "s") => `(tactic| first | with_reducible refine L2.My.w_forZT ?_)
theorem inW_hasB {t r b t' r' b' D X1 X2 Y1 Y2 : Int} (pb : 0 < b) (pb' : 0 < b') (G : Gau D X1 X2 Y1 Y2 t r b t' r' b') (c : C4) : inW D X1 X2 Y1 Y2 c = hasB t r b t' r' b' c := inW_inside G pb pb' c
theorem has_low {T R B T' R' B' : Int} (p : 0 < B) (p' : 0 < B') (c : C4) : hasB (lowT T R B) (lowR T R B) (lowB T R B) (lowT T' R' B') (lowR T' R' B') (lowB T' R' B') c = hasB T R B T' R' B' c := by
  obtain ⟨s, hs, e1, e2, e3⟩ := low_pos (t := T) (r := R) p
  obtain ⟨s', hs', e1', e2', e3'⟩ := low_pos (t := T') (r := R') p'
  unfold hasB
  refine inside_congr (s := s) (z := 1) (s' := s') (z' := 1) hs hs' (by decide) (by decide) ?_ ?_ ?_ ?_ ?_ ?_
  · show (2 * (conj c).a * lowB T R B - lowT T R B * 2) * s = (2 * (conj c).a * B - T * 2) * 1
    grind
  · show (((conj c).b - (conj c).d) * lowB T R B - lowR T R B * 2) * s = (((conj c).b - (conj c).d) * B - R * 2) * 1
    grind
  · show 2 * lowB T R B * s = 2 * B * 1
    grind
  · show (2 * (conj c).c * lowB T' R' B' - lowT T' R' B' * 2) * s' = (2 * (conj c).c * B' - T' * 2) * 1
    grind
  · show (((conj c).b + (conj c).d) * lowB T' R' B' - lowR T' R' B' * 2) * s' = (((conj c).b + (conj c).d) * B' - R' * 2) * 1
    grind
  · show 2 * lowB T' R' B' * s' = 2 * B' * 1
    grind
/-- the directions in which the next corner is there -/
def sidesF (f : C4 → Bool) (c : C4) (n : Nat) : List Int := ((List.range n).map Int.ofNat).filter fun d => f (stepC c d 1)
theorem sidesF_succ {f : C4 → Bool} {c : C4} {n : Nat} : sidesF f c (n + 1) = sidesF f c n ++ if f (stepC c n 1) then [(n : Int)] else [] := by
  unfold sidesF
  rw [List.range_succ, List.map_append, List.filter_append]
  simp only [List.map_cons, List.map_nil, List.filter_cons, List.filter_nil]
  rfl
theorem sidesF_len {f : C4 → Bool} {c : C4} {n : Nat} : (sidesF f c n).length ≤ n := by
  unfold sidesF
  exact Nat.le_trans (List.length_filter_le _ _) (by simp)
theorem sidesF_mem {f : C4 → Bool} {c : C4} {n : Nat} {d : Int} : d ∈ sidesF f c n ↔ ∃ k : Nat, k < n ∧ d = (k : Int) ∧ f (stepC c d 1) = true := by
  unfold sidesF
  rw [List.mem_filter, List.mem_map]
  constructor
  · rintro ⟨⟨k, hk, rfl⟩, h⟩
    exact ⟨k, List.mem_range.mp hk, rfl, h⟩
  · rintro ⟨k, hk, rfl, h⟩
    exact ⟨⟨k, List.mem_range.mpr hk, rfl⟩, h⟩
theorem sidesF_congr {f g : C4 → Bool} {c : C4} {n : Nat} (h : ∀ c, f c = g c) : sidesF f c n = sidesF g c n := by
  rw [show f = g from funext h]
theorem sidesF_eq {f : C4 → Bool} {c : C4} : sidesF f c 8 = (if f (stepC c 0 1) then [0] else []) ++ (if f (stepC c 1 1) then [1] else []) ++ (if f (stepC c 2 1) then [2] else []) ++ (if f (stepC c 3 1) then [3] else []) ++ (if f (stepC c 4 1) then [4] else []) ++ (if f (stepC c 5 1) then [5] else []) ++ (if f (stepC c 6 1) then [6] else []) ++ (if f (stepC c 7 1) then [7] else []) := by
  rw [sidesF_succ, sidesF_succ, sidesF_succ, sidesF_succ, sidesF_succ, sidesF_succ, sidesF_succ, sidesF_succ]
  show [] ++ _ ++ _ ++ _ ++ _ ++ _ ++ _ ++ _ ++ _ = _
  rw [List.nil_append]
  rfl
/-! the window over a common bottom: of three directions one behind the other, one is a side -/
def vecX (U V X : Int) (d : Nat) : Int := match d with
  | 0 => X + 2 * U | 1 => X - V | 2 => X | 3 => X + V | 4 => X - 2 * U | 5 => X + V | 6 => X | _ => X - V
def vecY (U V Y : Int) (d : Nat) : Int := match d with
  | 0 => Y | 1 => Y + V | 2 => Y - 2 * U | 3 => Y + V | 4 => Y | 5 => Y - V | 6 => Y + 2 * U | _ => Y - V
def wA (B X1 : Int) (c : C4) : Int := 2 * (B * c.a - X1)
def wB' (B X2 : Int) (c : C4) : Int := B * (c.d - c.b) - 2 * X2
def wC (B Y1 : Int) (c : C4) : Int := -2 * (B * c.c + Y1)
def wE (B Y2 : Int) (c : C4) : Int := B * (c.b + c.d) - 2 * Y2
theorem inW_winB {B X1 X2 Y1 Y2 : Int} {c : C4} : inW B X1 X2 Y1 Y2 c = winB B (wA B X1 c) (wB' B X2 c) (wC B Y1 c) (wE B Y2 c) := rfl
theorem inW_pell {B X1 X2 Y1 Y2 : Int} {c : C4} {p q : Int} (P : Pell p q) (far : ((wB' B X2 c).natAbs : Int) + (wE B Y2 c).natAbs + 3 * B.natAbs < q) : (inW B X1 X2 Y1 Y2 c = true ↔ WinL (wA B X1 c * q + wB' B X2 c * p) (wC B Y1 c * q + wE B Y2 c * p) (B * q) (B * p)) ∧
    ∀ d : Nat, d < 8 → (inW B X1 X2 Y1 Y2 (stepC c d 1) = true ↔ WinL (vecX (B * q) (B * p) (wA B X1 c * q + wB' B X2 c * p) d) (vecY (B * q) (B * p) (wC B Y1 c * q + wE B Y2 c * p) d) (B * q) (B * p)) := by
  refine ⟨win_pell P (by show ((wB' B X2 c).natAbs : Int) + (wE B Y2 c).natAbs + B.natAbs < q; omega), fun d hd => ?_⟩
  have key : ∀ {C : C4} {x y : Int}, (wB' B X2 C = wB' B X2 c ∨ wB' B X2 C = wB' B X2 c + B ∨ wB' B X2 C = wB' B X2 c - B) → (wE B Y2 C = wE B Y2 c ∨ wE B Y2 C = wE B Y2 c + B ∨ wE B Y2 C = wE B Y2 c - B) →
      wA B X1 C * q + wB' B X2 C * p = x → wC B Y1 C * q + wE B Y2 C * p = y → (inW B X1 X2 Y1 Y2 C = true ↔ WinL x y (B * q) (B * p)) := fun {C x y} k1 k2 e1 e2 => by
    rw [← e1, ← e2]
    refine win_pell P ?_
    show ((wB' B X2 C).natAbs : Int) + (wE B Y2 C).natAbs + B.natAbs < q
    generalize wB' B X2 C = u1 at *
    generalize wE B Y2 C = u2 at *
    generalize wB' B X2 c = u3 at *
    generalize wE B Y2 c = u4 at *
    omega
  have cs : d = 0 ∨ d = 1 ∨ d = 2 ∨ d = 3 ∨ d = 4 ∨ d = 5 ∨ d = 6 ∨ d = 7 := by omega
  rcases cs with rfl | rfl | rfl | rfl | rfl | rfl | rfl | rfl
  · refine key (.inl rfl) (.inl rfl) ?_ rfl
    show 2 * (B * (c.a + 1) - X1) * q + (B * (c.d - c.b) - 2 * X2) * p = 2 * (B * c.a - X1) * q + (B * (c.d - c.b) - 2 * X2) * p + 2 * (B * q)
    grind
  · refine key (.inr (.inr (by show B * (c.d - (c.b + 1)) - 2 * X2 = B * (c.d - c.b) - 2 * X2 - B; grind))) (.inr (.inl (by show B * (c.b + 1 + c.d) - 2 * Y2 = B * (c.b + c.d) - 2 * Y2 + B; grind))) ?_ ?_
    · show 2 * (B * c.a - X1) * q + (B * (c.d - (c.b + 1)) - 2 * X2) * p = 2 * (B * c.a - X1) * q + (B * (c.d - c.b) - 2 * X2) * p - B * p
      grind
    · show -2 * (B * c.c + Y1) * q + (B * (c.b + 1 + c.d) - 2 * Y2) * p = -2 * (B * c.c + Y1) * q + (B * (c.b + c.d) - 2 * Y2) * p + B * p
      grind
  · refine key (.inl rfl) (.inl rfl) rfl ?_
    show -2 * (B * (c.c + 1) + Y1) * q + (B * (c.b + c.d) - 2 * Y2) * p = -2 * (B * c.c + Y1) * q + (B * (c.b + c.d) - 2 * Y2) * p - 2 * (B * q)
    grind
  · refine key (.inr (.inl (by show B * (c.d + 1 - c.b) - 2 * X2 = B * (c.d - c.b) - 2 * X2 + B; grind))) (.inr (.inl (by show B * (c.b + (c.d + 1)) - 2 * Y2 = B * (c.b + c.d) - 2 * Y2 + B; grind))) ?_ ?_
    · show 2 * (B * c.a - X1) * q + (B * (c.d + 1 - c.b) - 2 * X2) * p = 2 * (B * c.a - X1) * q + (B * (c.d - c.b) - 2 * X2) * p + B * p
      grind
    · show -2 * (B * c.c + Y1) * q + (B * (c.b + (c.d + 1)) - 2 * Y2) * p = -2 * (B * c.c + Y1) * q + (B * (c.b + c.d) - 2 * Y2) * p + B * p
      grind
  · refine key (.inl rfl) (.inl rfl) ?_ rfl
    show 2 * (B * (c.a + -1) - X1) * q + (B * (c.d - c.b) - 2 * X2) * p = 2 * (B * c.a - X1) * q + (B * (c.d - c.b) - 2 * X2) * p - 2 * (B * q)
    grind
  · refine key (.inr (.inl (by show B * (c.d - (c.b + -1)) - 2 * X2 = B * (c.d - c.b) - 2 * X2 + B; grind))) (.inr (.inr (by show B * (c.b + -1 + c.d) - 2 * Y2 = B * (c.b + c.d) - 2 * Y2 - B; grind))) ?_ ?_
    · show 2 * (B * c.a - X1) * q + (B * (c.d - (c.b + -1)) - 2 * X2) * p = 2 * (B * c.a - X1) * q + (B * (c.d - c.b) - 2 * X2) * p + B * p
      grind
    · show -2 * (B * c.c + Y1) * q + (B * (c.b + -1 + c.d) - 2 * Y2) * p = -2 * (B * c.c + Y1) * q + (B * (c.b + c.d) - 2 * Y2) * p - B * p
      grind
  · refine key (.inl rfl) (.inl rfl) rfl ?_
    show -2 * (B * (c.c + -1) + Y1) * q + (B * (c.b + c.d) - 2 * Y2) * p = -2 * (B * c.c + Y1) * q + (B * (c.b + c.d) - 2 * Y2) * p + 2 * (B * q)
    grind
  · refine key (.inr (.inr (by show B * (c.d + -1 - c.b) - 2 * X2 = B * (c.d - c.b) - 2 * X2 - B; grind))) (.inr (.inr (by show B * (c.b + (c.d + -1)) - 2 * Y2 = B * (c.b + c.d) - 2 * Y2 - B; grind))) ?_ ?_
    · show 2 * (B * c.a - X1) * q + (B * (c.d + -1 - c.b) - 2 * X2) * p = 2 * (B * c.a - X1) * q + (B * (c.d - c.b) - 2 * X2) * p - B * p
      grind
    · show -2 * (B * c.c + Y1) * q + (B * (c.b + (c.d + -1)) - 2 * Y2) * p = -2 * (B * c.c + Y1) * q + (B * (c.b + c.d) - 2 * Y2) * p - B * p
      grind
theorem gapW {B X1 X2 Y1 Y2 : Int} {c : C4} (hB : 0 < B) (w : inW B X1 X2 Y1 Y2 c = true) (d : Nat) (hd : d < 8) : inW B X1 X2 Y1 Y2 (stepC c d 1) = true ∨ inW B X1 X2 Y1 Y2 (stepC c ((d + 1) % 8 : Nat) 1) = true ∨ inW B X1 X2 Y1 Y2 (stepC c ((d + 2) % 8 : Nat) 1) = true := by
  obtain ⟨p, q, P, far⟩ := pell_far ((wB' B X2 c).natAbs + (wE B Y2 c).natAbs + 3 * B.natAbs)
  obtain ⟨k0, k⟩ := inW_pell (B := B) (X1 := X1) (X2 := X2) (Y1 := Y1) (Y2 := Y2) (c := c) P (by omega)
  rw [k d hd, k _ (Nat.mod_lt _ (by decide)), k _ (Nat.mod_lt _ (by decide))]
  have w := k0.mp w
  have u : 0 < B * q := Int.mul_pos hB P.q
  have lo : 7 * (B * q) < 5 * (B * p) := by
    have := Int.mul_lt_mul_of_pos_left P.lo hB
    grind
  have hi : 2 * (B * p) ≤ 3 * (B * q) := by
    have := Int.mul_le_mul_of_nonneg_left P.hi (Int.le_of_lt hB)
    grind
  have cs : d = 0 ∨ d = 1 ∨ d = 2 ∨ d = 3 ∨ d = 4 ∨ d = 5 ∨ d = 6 ∨ d = 7 := by omega
  rcases cs with rfl | rfl | rfl | rfl | rfl | rfl | rfl | rfl
  · exact w.gap0 u lo hi
  · exact w.gap1 u lo hi
  · exact w.gap2 u lo hi
  · exact w.gap3 u lo hi
  · exact w.gap4 u lo hi
  · exact w.gap5 u lo hi
  · exact w.gap6 u lo hi
  · exact w.gap7 u lo hi
/-- of three directions one behind the other, one is a side -/
def Gap (f : C4 → Bool) (c : C4) : Prop := ∀ d : Nat, d < 8 → f (stepC c d 1) = true ∨ f (stepC c ((d + 1) % 8 : Nat) 1) = true ∨ f (stepC c ((d + 2) % 8 : Nat) 1) = true
theorem gapH {t r b t' r' b' D X1 X2 Y1 Y2 : Int} {c : C4} (pb : 0 < b) (pb' : 0 < b') (G : Gau D X1 X2 Y1 Y2 t r b t' r' b') (w : hasB t r b t' r' b' c = true) : Gap (hasB t r b t' r' b') c := fun d hd => by
  have := gapW G.pB (by rw [inW_hasB pb pb' G]; exact w) d hd
  rw [inW_hasB pb pb' G, inW_hasB pb pb' G, inW_hasB pb pb' G] at this
  exact this
def chkB (a b c d e f g h : Bool) : Bool :=
  let L : List Int := (if a then [0] else []) ++ (if b then [1] else []) ++ (if c then [2] else []) ++ (if d then [3] else []) ++ (if e then [4] else []) ++ (if f then [5] else []) ++ (if g then [6] else []) ++ (if h then [7] else [])
  !((a || b || c) && (b || c || d) && (c || d || e) && (d || e || f) && (e || f || g) && (f || g || h) && (g || h || a) && (h || a || b)) ||
    (decide (3 ≤ L.length) && (List.range 8).all fun i => decide (L.length ≤ i) || (decide (L.getD i 0 % 4 ≠ L.getD ((i + 1) % L.length) 0 % 4) && decide ((L.getD ((i + 1) % L.length) 0 - L.getD i 0) % 8 ≤ 3)))
theorem chk_all : ∀ a b c d e f g h : Bool, chkB a b c d e f g h = true := by decide +kernel
/-- two sides one behind the other: unlike lines, at most three eighths apart; there are three sides or more -/
theorem sidesF_next {f : C4 → Bool} {c : C4} (g : Gap f c) : 3 ≤ (sidesF f c 8).length ∧ ∀ i, i < (sidesF f c 8).length → (sidesF f c 8).getD i 0 % 4 ≠ (sidesF f c 8).getD ((i + 1) % (sidesF f c 8).length) 0 % 4 ∧ ((sidesF f c 8).getD ((i + 1) % (sidesF f c 8).length) 0 - (sidesF f c 8).getD i 0) % 8 ≤ 3 := by
  have l8 := sidesF_len (f := f) (c := c) (n := 8)
  rw [sidesF_eq] at l8 ⊢
  have c0 : f (stepC c 0 1) = true ∨ f (stepC c 1 1) = true ∨ f (stepC c 2 1) = true := g 0 (by decide)
  have c1 : f (stepC c 1 1) = true ∨ f (stepC c 2 1) = true ∨ f (stepC c 3 1) = true := g 1 (by decide)
  have c2 : f (stepC c 2 1) = true ∨ f (stepC c 3 1) = true ∨ f (stepC c 4 1) = true := g 2 (by decide)
  have c3 : f (stepC c 3 1) = true ∨ f (stepC c 4 1) = true ∨ f (stepC c 5 1) = true := g 3 (by decide)
  have c4 : f (stepC c 4 1) = true ∨ f (stepC c 5 1) = true ∨ f (stepC c 6 1) = true := g 4 (by decide)
  have c5 : f (stepC c 5 1) = true ∨ f (stepC c 6 1) = true ∨ f (stepC c 7 1) = true := g 5 (by decide)
  have c6 : f (stepC c 6 1) = true ∨ f (stepC c 7 1) = true ∨ f (stepC c 0 1) = true := g 6 (by decide)
  have c7 : f (stepC c 7 1) = true ∨ f (stepC c 0 1) = true ∨ f (stepC c 1 1) = true := g 7 (by decide)
  have k := chk_all (f (stepC c 0 1)) (f (stepC c 1 1)) (f (stepC c 2 1)) (f (stepC c 3 1)) (f (stepC c 4 1)) (f (stepC c 5 1)) (f (stepC c 6 1)) (f (stepC c 7 1))
  clear g
  generalize f (stepC c 0 1) = a0 at *
  generalize f (stepC c 1 1) = a1 at *
  generalize f (stepC c 2 1) = a2 at *
  generalize f (stepC c 3 1) = a3 at *
  generalize f (stepC c 4 1) = a4 at *
  generalize f (stepC c 5 1) = a5 at *
  generalize f (stepC c 6 1) = a6 at *
  generalize f (stepC c 7 1) = a7 at *
  unfold chkB at k
  simp only [Bool.or_eq_true, Bool.not_eq_true', Bool.and_eq_true, Bool.and_eq_false_iff, Bool.or_eq_false_iff, decide_eq_true_eq, List.all_eq_true, List.mem_range] at k
  rcases k with k | ⟨k1, k2⟩
  · exfalso
    revert c0 c1 c2 c3 c4 c5 c6 c7 k
    cases a0 <;> cases a1 <;> cases a2 <;> cases a3 <;> cases a4 <;> cases a5 <;> cases a6 <;> cases a7 <;> simp
  · refine ⟨k1, fun i hi => ?_⟩
    rcases k2 i (Nat.lt_of_lt_of_le hi l8) with z | z
    · omega
    · exact z
theorem step_bw {n : Nat} {c : C4} {d : Int} (h0 : 0 ≤ d) (h7 : d ≤ 7) (h : C4.bw n c) : C4.bw (n + 1) (stepC c d 1) := by
  obtain ⟨e1, e2, e3, e4⟩ := unit_add h0 h7 c
  obtain ⟨u1, u2, u3, u4⟩ := unit_bw h0 h7
  obtain ⟨w1, w2, w3, w4⟩ := h
  have k : ∀ {x y : Int}, Bw n x → Bw 1 y → Bw (n + 1) (x + y) := fun {x y} hx hy => by
    unfold Bw at *
    have : 0 < 2 ^ n := Nat.pow_pos (by decide)
    rw [Nat.pow_succ]
    omega
  rw [C4.bw, e1, e2, e3, e4]
  exact ⟨k w1 u1, k w2 u2, k w3 u3, k w4 u4⟩
theorem C4.bw.mono {n m : Nat} {c : C4} (h : C4.bw n c) (l : n ≤ m) : C4.bw m c := ⟨h.1.mono l, h.2.1.mono l, h.2.2.1.mono l, h.2.2.2.mono l⟩
theorem step_back {c : C4} {d : Int} (h0 : 0 ≤ d) (h7 : d ≤ 7) : stepC (stepC c d 1) ((d + 4) % 8) 1 = c := by
  obtain ⟨a, b, e, g⟩ := c
  rcases dir_cases h0 h7 with rfl | rfl | rfl | rfl | rfl | rfl | rfl | rfl <;> simp [stepC, C4.plus] <;> omega
abbrev s_Floorways : Stmt := inClass (top 41) 2
theorem sc_Floorways : FnScope ["self", "corner", "d"] ["self", "corner"] (defScope s_Floorways) := ⟨rfl, rfl, rfl, by decide +kernel, rfl, by decide +kernel, by decide +kernel⟩

def sp_Floorways (Z : Zs) : Sp := fun vs H Q E =>
  ∃ v p c t r b t' r' b', vs = [v, .ref p] ∧ FloorAt Z H v t r b t' r' b' ∧ 0 < b ∧ 0 < b' ∧ H p = some (.tup [.int (c : C4).a, .int c.b, .int c.c, .int c.d]) ∧ C4.bw 590 c ∧ ∀ u H', H u = none → Same H H' → FzT H' u ((sidesF (hasB t r b t' r' b') c 8).map V.int) → Q (.ref u) H'
theorem ok_Floorways (T : Txt Z mg) (h_in_window : Has P w Z.K mg base "in_window" 3 ["gauge", "corner"] (sp_in_window Z)) (h_step : Has P w Z.K mg base "step" 1 ["corner", "direction", "many"] (sp_step Z)) (D : AtM Z.K Z.c_Floor "_ways" "Floor._ways" s_Floorways ["self", "corner"]) : HasM P w Z.K mg base Z.c_Floor "_ways" 4 ["self", "corner"] (sp_Floorways Z) := by
  refine D.ok sc_Floorways (fun vs H Q E h => ?_) (fun cdv A outer s H vs Q E hr h => ?_)
  · obtain ⟨v, p, c, t, r, b, t', r', b', rfl, _⟩ := h
    rfl
  · refine ⟨_, (pss_one (ps_ret (pe_callTy cn_tupleF rfl T.n_tuple (by decide +kernel) (pa_cons (pe_lc (own := [("d", 2)]) (g := gName 2) rfl sc_Floorways.nd (pi_range1 rfl T.n_range (pa_cons pe_int pa_nil)) (blkOk_by (N := ["self", "corner", "d"]) (sc := defScope s_Floorways) (by decide +kernel)) (fun _ _ _ _ _ => pg_name (i := 2) sc_Floorways.nd rfl (Or.inl rfl)) (fun _ _ _ _ _ => (pts_one (pt_val (pe_h (E := fun _ => E0) h_in_window hr pa0 (pa_cons (pe_fldZ (K := Z.K) rfl (pv 0) rfl) (pa_cons (pe_h (E := fun _ => E0) h_step hr pa0 (pa_cons (pv 1) (pa_cons (pv 2) (pa_cons pe_int pa_nil)))) pa_nil)))))) (fun _ _ _ _ _ => (pv 2))) pa_nil)))), ?_⟩
    try simp only [cxOf]
    obtain ⟨v, p, c, t, r, b, t', r', b', rfl, hf, pb, pb', hp, wc, k⟩ := h
    have hf' := hf
    obtain ⟨a, dx, u, g, vx, vy, D, X1, X2, Y1, Y2, rfl, e1, e2, e3, e4, e5, G⟩ := hf
    walk_at "W"
    refine k_lcR (n := 8) (fun i D' H' => H D' = none ∧ H' D' = some (.lst ((sidesF (hasB t r b t' r' b') c i).map V.int)) ∧ Same H H') (by decide) (by decide) (fun D hD => ⟨hD, upd_same, Same.new hD⟩) ?_ ?_
    · rintro i D' H' hi ⟨hD, f1, ss⟩
      have hi8 : i < 8 := hi
      have hp := ss _ _ hp
      refine ⟨rfl, ?_⟩
      walk_at "W"
      refine w_fld (ss _ _ e1) T.c_Floor T.nf_Floor__gauge (ff_gauge _ _) ?_
      walk_at "W"
      refine ⟨_, c, _, _, rfl, ⟨p, rfl, hp⟩, by omega, by omega, fun v' H5 s5 hc5 => ?_⟩
      obtain ⟨p5, rfl, hp5⟩ := hc5
      walk_at "W"
      refine ⟨g, p5, D, X1, X2, Y1, Y2, _, rfl, s5 _ _ (ss _ _ e5), hp5, G.wB, G.w1, G.w2, G.w3, G.w4, (step_bw (d := 0 + (i : Int)) (by omega) (by omega) wc).mono (by decide), ?_⟩
      rw [inW_hasB pb pb' G]
      cases e : hasB t r b t' r' b' (stepC c (0 + (i : Int)) 1)
      · walk_at "W"
        refine ⟨hD, ?_, ss.trans s5⟩
        rw [Int.zero_add] at e
        rw [sidesF_succ, e, if_neg (by decide), List.append_nil]
        exact s5 _ _ f1
      · walk_at "W"
        refine ⟨_, s5 _ _ f1, sz_lt (by have := sidesF_len (f := hasB t r b t' r' b') (c := c) (n := i); simp; omega), hD, ?_, fun b o eb => ?_⟩
        · rw [Int.zero_add] at e
          rw [sidesF_succ, e, if_pos rfl, List.map_append, upd_same, Int.zero_add]
          rfl
        · rw [upd_ne (ne_of_none eb hD)]
          exact s5 _ _ (ss b o eb)
    · rintro D' H5 ⟨hD, f1, ss⟩
      exact ⟨D', _, rfl, SqL.of f1, fun u2 H6 hu s6 e6 => k u2 H6 (ss.free hu) (ss.trans s6) e6⟩
abbrev s_Floor_sides : Stmt := inClass (top 41) 4
theorem sc_Floor_sides : FnScope ["self", "corner"] ["self", "corner"] (defScope s_Floor_sides) := ⟨rfl, rfl, rfl, by decide +kernel, rfl, by decide +kernel, by decide +kernel⟩

def sp_Floor_sides (Z : Zs) : Sp := fun vs H Q E =>
  ∃ v o t r b t' r' b', vs = [v, o] ∧ FloorAt Z H v t r b t' r' b' ∧ 0 < b ∧ 0 < b' ∧ ((∃ c, CorAt H o c ∧ C4.bw 590 c ∧ (hasB t r b t' r' b' c = true ∧ (∀ u H', H u = none → Same H H' → FzT H' u ((sidesF (hasB t r b t' r' b') c 8).map V.int) → Q (.ref u) H') ∨ hasB t r b t' r' b' c = false ∧ ErX Z.c_NoCorner "corner" o H E)) ∨ BadCor Z H o ∧ ErX Z.c_BadCorner "corner" o H E)
theorem ok_Floor_sides (T : Txt Z mg) (h_NoCorner : HasX P w Z.K mg base "NoCorner" Z.c_NoCorner 1 ["self", "corner"] (sp_NoCorner_init Z)) (h_Floorways : HasM P w Z.K mg base Z.c_Floor "_ways" 4 ["self", "corner"] (sp_Floorways Z)) (h_Floor_has_corner : HasM P w Z.K mg base Z.c_Floor "has_corner" 4 ["self", "corner"] (sp_Floor_has_corner Z)) (D : AtM Z.K Z.c_Floor "sides" "Floor.sides" s_Floor_sides ["self", "corner"]) : HasM P w Z.K mg base Z.c_Floor "sides" 5 ["self", "corner"] (sp_Floor_sides Z) := by
  refine D.ok sc_Floor_sides (fun vs H Q E h => ?_) (fun cdv A outer s H vs Q E hr h => ?_)
  · obtain ⟨v, o, t, r, b, t', r', b', rfl, _⟩ := h
    rfl
  · refine ⟨_, (pss_cons (ps_if (pt_not (pt_val (pe_hm (E := ED E) h_Floor_has_corner T.c_Floor hr (paW (takes_of rfl rfl rfl rfl)) (pv 0) (pa_cons (pv 1) pa_nil)))) (pss_one (ps_raise rfl (takes_of rfl rfl rfl rfl) (pm_h T.x_NoCorner h_NoCorner hr (pa_cons (pv 1) pa_nil)))) pss_nil)
      (pss_one (ps_ret (pe_hm (E := ED E) h_Floorways T.c_Floor hr (paW (takes_of rfl rfl rfl rfl)) (pv 0) (pa_cons (pv 1) pa_nil))))), ?_⟩
    try simp only [cxOf]
    obtain ⟨v, o, t, r, b, t', r', b', rfl, hf, pb, pb', ⟨c, hc, wc, hh⟩ | ⟨bad, er⟩⟩ := h
    · have hf' := hf
      obtain ⟨a, dx, u, g, vx, vy, D, X1, X2, Y1, Y2, rfl, e1, e2, e3, e4, e5, -⟩ := hf'
      walk_at "W"
      refine k_meth e1 (ff_none (by decide +kernel) (by decide +kernel)) ?_
      walk_at "W"
      refine ⟨_, o, t, r, b, t', r', b', rfl, hf, .inl ⟨c, hc, wc.mono (by decide), fun D X1 X2 Y1 Y2 H1 s1 G => ?_⟩⟩
      rw [inW_hasB pb pb' G]
      rcases hh with ⟨y, q⟩ | ⟨n, er⟩
      · rw [y]
        walk_at "W"
        refine k_meth (s1 _ _ e1) (ff_none (by decide +kernel) (by decide +kernel)) ?_
        obtain ⟨p, rfl, hp⟩ := hc
        walk_at "W"
        exact ⟨_, p, c, t, r, b, t', r', b', rfl, hf.same s1, pb, pb', s1 _ _ hp, wc, fun u H2 hu s2 e => q u H2 (s1.free hu) (s1.trans s2) e⟩
      · rw [n]
        walk_at "W"
        exact k_mkO (er.same s1)
    · have hf' := hf
      obtain ⟨a, dx, u, g, vx, vy, D, X1, X2, Y1, Y2, rfl, e1, e2, e3, e4, e5, -⟩ := hf'
      walk_at "W"
      refine k_meth e1 (ff_none (by decide +kernel) (by decide +kernel)) ?_
      walk_at "W"
      exact ⟨_, o, t, r, b, t', r', b', rfl, hf, .inr ⟨bad, er⟩⟩
-- needs W16
theorem cutV_tail {xs : List V} {k : Nat} : cutV xs (some (k : Int)) none = xs.drop k := by
  unfold cutV
  rw [show HT.sIx xs.length 0 (some (k : Int)) = min k xs.length from HT.sIx_nat _ _ _]
  show List.take (xs.length - min k xs.length) (List.drop (min k xs.length) xs) = _
  rcases Nat.le_total k xs.length with h | h
  · rw [Nat.min_eq_left h, List.take_of_length_le (by rw [List.length_drop]; omega)]
  · rw [Nat.min_eq_right h, List.drop_of_length_le h, List.drop_length, List.take_nil]
theorem cutV_head {xs : List V} {k : Nat} : cutV xs none (some (k : Int)) = xs.take k := by
  unfold cutV
  rw [show HT.sIx xs.length xs.length (some (k : Int)) = min k xs.length from HT.sIx_nat _ _ _]
  show List.take (min k xs.length - 0) (List.drop 0 xs) = _
  rw [List.drop_zero, Nat.sub_zero]
  rcases Nat.le_total k xs.length with h | h
  · rw [Nat.min_eq_left h]
  · rw [Nat.min_eq_right h, List.take_length, List.take_of_length_le h]
theorem inV_ints {k : Int} {ds : List Int} : inV (.int k) (ds.map V.int) = decide (k ∈ ds) := by
  unfold inV
  rw [List.any_map]
  induction ds with
  | nil => rfl
  | cons d ds ih =>
    rw [List.any_cons, ih]
    by_cases h : k = d
    · subst h
      simp [eqV]
    · have : ¬ d = k := fun z => h z.symm
      simp [eqV, h, this]
theorem flat_ints (ds : List Int) : (ds.map V.int).all flatV = true := by
  rw [List.all_map, List.all_eq_true]
  intro d _
  rfl
theorem w_notInT {K : PySem.W.Frag} {H : Hp} {Q : VK} {p : Addr} {k : Int} {ds : List Int} (h : H p = some (.tup (ds.map V.int))) (q : Q (.bl (!decide (k ∈ ds))) H) : rIn K true (.int k) (.ref p) H Q :=
  ⟨p, _, rfl, .inr (SqT.of h), rfl, flat_ints _, by rw [if_pos rfl, inV_ints]; exact q⟩
theorem w_neLL {K : PySem.W.Frag} {H : Hp} {Q : VK} {a b : Addr} {ns ms : List Int} (h1 : H a = some (.lst (ns.map V.int))) (h2 : H b = some (.lst (ms.map V.int))) (q : Q (.bl (!decide (ns = ms))) H) : rNeD K (.ref a) (.ref b) H Q :=
  ⟨.list (ns.map .int), .list (ms.map .int), .lst (SqL.of h1) (dp_ints ns), .lst (SqL.of h2) (dp_ints ms), shaped_intsL _, shaped_intsL _, by rw [PyData.eqv, eqv_ints]; exact q⟩
/-- (word, thing) != (word, thing), the same thing -/
theorem k_neSame {K : PySem.W.Frag} {H : Hp} {Q : VK} {s : Str} {u v : Addr} {x : V} {d : PyData} (hu : H u = some (.tup [.str s, x])) (hv : H v = some (.tup [.str s, x])) (ls : PyData.canLay0 (.str s) = true) (dx : Dp K H x d) (ly : d.canLay0 = true) (de : d.depth ≤ 10) (q : Q (.bl false) H) : rNeD K (.ref u) (.ref v) H Q := by
  have l2 : PyData.canLay0 (.tuple [.str s, d]) = true := by
    simp only [PyData.canLay0] at ls
    simp only [PyData.canLay0, PyData.canLayAll0, ly, ls, Bool.and_self]
  have sh : SeqAt.shaped (.tuple [.str s, d]) = true := by
    unfold SeqAt.shaped
    rw [l2, Bool.true_and]
    simp only [PyData.depth, PyData.depthAll]
    exact decide_eq_true (by omega)
  refine ⟨_, _, .tup (SqT.of hu) (.cons (.str _) (.cons dx .nil)), .tup (SqT.of hv) (.cons (.str _) (.cons dx .nil)), sh, sh, ?_⟩
  rw [SeqAt.eqv_refl _ l2]
  exact q
abbrev s__law_step : Stmt := top 60
theorem sc__law_step : FnScope ["corner", "way", "many", "found"] ["corner", "way", "many"] (defScope s__law_step) := ⟨rfl, rfl, rfl, by decide +kernel, rfl, by decide +kernel, by decide +kernel⟩

def sp__law_step (Z : Zs) : Sp := fun vs H Q E =>
  ∃ p c d m, vs = [.ref p, .int d, .int m] ∧ H p = some (.tup [.int (c : C4).a, .int c.b, .int c.c, .int c.d]) ∧ 0 ≤ d ∧ d ≤ 7 ∧ ∀ u H', H u = none → Same H H' → H' u = some (.tup [.int (stepC c d m).a, .int (stepC c d m).b, .int (stepC c d m).c, .int (stepC c d m).d]) → Q (.ref u) H'
theorem ok__law_step (T : Txt Z mg)  (D : AtF Z.K mg "_law_step" "_law_step" s__law_step ["corner", "way", "many"]) : Has P w Z.K mg base "_law_step" 1 ["corner", "way", "many"] (sp__law_step Z) := by
  refine D.ok sc__law_step (fun vs H Q E h => ?_) (fun cdv A outer s H vs Q E hr h => ?_)
  · obtain ⟨p, c, d, m, rfl, _⟩ := h
    rfl
  · refine ⟨_, (pss_cons (ps_set (i := 3) sc__law_step.nd rfl (Or.inl rfl) (pe_callTy cn_list rfl T.n_list (by decide +kernel) (pa_cons (pv 0) pa_nil)))
      (pss_cons (ps_augS (pv 3) (pe_op op_mod (pe_callTy cn_int rfl T.n_int (by decide +kernel) (pa_cons (pv 1) pa_nil)) pe_int) get_list (pe_ifExp (pt_cmpR op_lt (pv 1) pe_int (nomark _)) (pv 2) (pe_un un_neg (pv 2))) ip_add set_list)
      (pss_one (ps_ret (pe_callTy cn_tuple rfl T.n_tuple (by decide +kernel) (pa_cons (pv 3) pa_nil)))))), ?_⟩
    try simp only [cxOf]
    obtain ⟨p, c, d, m, rfl, hp, h0, h7, q⟩ := h
    walk_at "W"
    refine w_listT (SqT.of hp) fun l H1 hl s1 e1 => ?_
    have fin : ∀ {x y z u : Int} {H2 : Hp}, SameX l H1 H2 → H2 l = some (.lst [.int x, .int y, .int z, .int u]) → (⟨x, y, z, u⟩ : C4) = stepC c d m → rTupOf Z.K [.ref l] H2 Q := fun {x y z u H2} s2 e2 e => by
      refine w_tupL e2 fun t H3 ht s3 e3 => ?_
      have S : Same H H3 := fun b o eb => s3 _ _ (s2 b o (ne_of_none eb hl) (s1 _ _ eb))
      have S2 : Same H H2 := fun b o eb => s2 b o (ne_of_none eb hl) (s1 _ _ eb)
      refine q _ H3 (S2.free ht) S ?_
      rw [← e]
      exact e3
    rcases dir_cases h0 h7 with rfl | rfl | rfl | rfl | rfl | rfl | rfl | rfl
    all_goals
      walk_at "W"
      refine w_getL e1 (by decide) rfl ?_
      walk_at "W"
      refine ⟨_, _, rfl, rfl, ?_⟩
      refine w_setL e1 rfl fun H2 s2 e2 => ?_
      walk_at "W"
      exact fin s2 e2 (by simp [stepC, C4.plus, Int.sub_eq_add_neg])
abbrev s__law_sides : Stmt := top 61
theorem sc__law_sides : FnScope ["shift", "corner", "way"] ["shift", "corner"] (defScope s__law_sides) := ⟨rfl, rfl, rfl, by decide +kernel, rfl, by decide +kernel, by decide +kernel⟩

def sp__law_sides (Z : Zs) : Sp := fun vs H Q E =>
  ∃ w p c T R B T' R' B', vs = [.ref w, .ref p] ∧ ShAt H w T R B T' R' B' ∧ ShB T R B T' R' B' ∧ H p = some (.tup [.int (c : C4).a, .int c.b, .int c.c, .int c.d]) ∧ C4.bw 129 c ∧ ∀ u H', H u = none → Same H H' → H' u = some (.lst ((sidesF (hasB T R B T' R' B') c 8).map V.int)) → Q (.ref u) H'
theorem ok__law_sides (T : Txt Z mg) (h__law_has : Has P w Z.K mg base "_law_has" 4 ["shift", "corner"] (sp__law_has Z)) (h__law_step : Has P w Z.K mg base "_law_step" 1 ["corner", "way", "many"] (sp__law_step Z)) (D : AtF Z.K mg "_law_sides" "_law_sides" s__law_sides ["shift", "corner"]) : Has P w Z.K mg base "_law_sides" 5 ["shift", "corner"] (sp__law_sides Z) := by
  refine D.ok sc__law_sides (fun vs H Q E h => ?_) (fun cdv A outer s H vs Q E hr h => ?_)
  · obtain ⟨w, p, c, T, R, B, T', R', B', rfl, _⟩ := h
    rfl
  · refine ⟨_, (pss_one (ps_ret (pe_lc (own := [("way", 2)]) (g := gName 2) rfl sc__law_sides.nd (pi_range1 rfl T.n_range (pa_cons pe_int pa_nil)) (blkOk_by (N := ["shift", "corner", "way"]) (sc := defScope s__law_sides) (by decide +kernel)) (fun _ _ _ _ _ => pg_name (i := 2) sc__law_sides.nd rfl (Or.inl rfl)) (fun _ _ _ _ _ => (pts_one (pt_val (pe_h (E := fun _ => E0) h__law_has hr pa0 (pa_cons (pv 0) (pa_cons (pe_h (E := fun _ => E0) h__law_step hr pa0 (pa_cons (pv 1) (pa_cons (pv 2) (pa_cons pe_int pa_nil)))) pa_nil)))))) (fun _ _ _ _ _ => (pv 2))))), ?_⟩
    try simp only [cxOf]
    obtain ⟨w, p, c, TT, R, B, T', R', B', rfl, hs, sb, hp, wc, k⟩ := h
    walk_at "W"
    refine k_lcR (n := 8) (fun i D H' => H D = none ∧ H' D = some (.lst ((sidesF (hasB TT R B T' R' B') c i).map V.int)) ∧ Same H H') (by decide) (by decide) (fun D hD => ⟨hD, upd_same, Same.new hD⟩) ?_ ?_
    · rintro i D H' hi ⟨hD, e1, ss⟩
      have hi8 : i < 8 := hi
      have hp := ss _ _ hp
      refine ⟨rfl, ?_⟩
      walk_at "W"
      refine ⟨p, c, _, _, rfl, hp, by omega, by omega, fun u H5 hu s5 e5 => ?_⟩
      walk_at "W"
      refine k_lhas (hs.kps (Kps.same (ss.trans s5))) sb e5 (step_bw (by omega) (by omega) wc) fun H6 s6 => ?_
      have S := s5.trans s6
      cases e : hasB TT R B T' R' B' (stepC c (0 + (i : Int)) 1)
      · walk_at "W"
        refine ⟨hD, ?_, ss.trans S⟩
        rw [Int.zero_add] at e
        rw [sidesF_succ, e, if_neg (by decide), List.append_nil]
        exact S _ _ e1
      · walk_at "W"
        refine ⟨_, S _ _ e1, sz_lt (by have := sidesF_len (f := hasB TT R B T' R' B') (c := c) (n := i); simp; omega), hD, ?_, fun b o eb => ?_⟩
        · rw [Int.zero_add] at e
          rw [sidesF_succ, e, if_pos rfl, List.map_append, upd_same, Int.zero_add]
          rfl
        · rw [upd_ne (ne_of_none eb hD)]
          exact S _ _ (ss b o eb)
    · rintro D H5 ⟨hD, e1, ss⟩
      exact k D H5 hD ss e1
theorem part_bw {n : Nat} {x y : Int} (h : Bw n x) (l : 25 ≤ n) (h1 : -10000000 ≤ y) (h2 : y ≤ 10000000) : Bw (n + 1) (x + y) := by
  unfold Bw at *
  have : 2 ^ 25 ≤ 2 ^ n := Nat.pow_le_pow_right (by decide) l
  rw [Nat.pow_succ]
  have e : (2 : Nat) ^ 25 = 33554432 := by decide
  omega
/-- tuple and tuple with one part changed -/
def C4.set1 (c : C4) (i : Int) (y : Int) : C4 := if i = 0 then ⟨c.a + y, c.b, c.c, c.d⟩ else if i = 1 then ⟨c.a, c.b + y, c.c, c.d⟩ else if i = 2 then ⟨c.a, c.b, c.c + y, c.d⟩ else ⟨c.a, c.b, c.c, c.d + y⟩
theorem C4.set1_bw {n : Nat} {c : C4} {i y : Int} (h : C4.bw n c) (l : 25 ≤ n) (h1 : -10000000 ≤ y) (h2 : y ≤ 10000000) : C4.bw (n + 1) (c.set1 i y) := by
  have m : ∀ {x : Int}, Bw n x → Bw (n + 1) x := fun h => h.mono (by omega)
  obtain ⟨a, b, cc, d⟩ := h
  unfold C4.set1
  split
  · exact ⟨part_bw a l h1 h2, m b, m cc, m d⟩
  split
  · exact ⟨m a, part_bw b l h1 h2, m cc, m d⟩
  split
  · exact ⟨m a, m b, part_bw cc l h1 h2, m d⟩
  · exact ⟨m a, m b, m cc, part_bw d l h1 h2⟩
abbrev s__law_floor : Stmt := top 62
theorem sc__law_floor : FnScope ["shift"] ["shift"] (defScope s__law_floor) := ⟨rfl, rfl, rfl, by decide +kernel, rfl, by decide +kernel, by decide +kernel⟩

def sp__law_floor (Z : Zs) : Sp := fun vs H Q E =>
  ∃ w T R B T' R' B', vs = [.ref w] ∧ ShAt H w T R B T' R' B' ∧ ShB T R B T' R' B' ∧ ∀ v H', Same H H' → FloorAt Z H' v (lowT T R B) (lowR T R B) (lowB T R B) (lowT T' R' B') (lowR T' R' B') (lowB T' R' B') → Q v H'
theorem ok__law_floor (T : Txt Z mg) (h_Floor : HasC P w Z.K mg base "Floor" Z.c_Floor 9 ["self", "shift"] (sp_Floor_init Z)) (h__law_given : Has P w Z.K mg base "_law_given" 5 ["number"] (sp__law_given Z)) (D : AtF Z.K mg "_law_floor" "_law_floor" s__law_floor ["shift"]) : Has P w Z.K mg base "_law_floor" 11 ["shift"] (sp__law_floor Z) := by
  refine D.ok sc__law_floor (fun vs H Q E h => ?_) (fun cdv A outer s H vs Q E hr h => ?_)
  · obtain ⟨w, T, R, B, T', R', B', rfl, _⟩ := h
    rfl
  · refine ⟨_, (pss_one (ps_ret (pe_hc (E := ED E) h_Floor hr (paW (takes_of rfl rfl rfl rfl)) (pa_cons (pe_tup (pa_cons (pe_h (E := ED E) h__law_given hr (paW (takes_of rfl rfl rfl rfl)) (pa_cons (pe_ix ix_seq (pv 0) pe_int (fun _ _ => rfl)) pa_nil)) (pa_cons (pe_h (E := ED E) h__law_given hr (paW (takes_of rfl rfl rfl rfl)) (pa_cons (pe_ix ix_seq (pv 0) pe_int (fun _ _ => rfl)) pa_nil)) pa_nil))) pa_nil)))), ?_⟩
    try simp only [cxOf]
    obtain ⟨ws, T0, R0, B0, T1, R1, B1, rfl, ⟨q1, q2, ew, g1, g2⟩, sb, q⟩ := h
    walk_at "W"
    refine ⟨q1, _, _, _, rfl, g1, sb.p, sb.wB.mono (by decide), fun v1 H7 s7 n1 => ?_⟩
    have ew7 := s7 _ _ ew
    walk_at "W"
    refine ⟨q2, _, _, _, rfl, s7 _ _ g2, sb.p', sb.wB'.mono (by decide), fun v2 H8 s8 n2 => ?_⟩
    walk_at "W"
    refine k_tup rfl fun uf H9 huf s9 e9 => ?_
    walk_at "W"
    exact k_floor sb e9 ((n1.same s8).same s9) (n2.same s9) fun vf H10 s10 hf => q vf H10 (s7.trans (s8.trans (s9.trans s10))) hf
theorem gapF {v : V} {T R B T' R' B' : Int} {H : Hp} {c : C4} (hf : FloorAt Z H v (lowT T R B) (lowR T R B) (lowB T R B) (lowT T' R' B') (lowR T' R' B') (lowB T' R' B')) (p : 0 < B) (p' : 0 < B') (y : hasB T R B T' R' B' c = true) : Gap (hasB T R B T' R' B') c := by
  obtain ⟨a, dx, u, g, vx, vy, D, X1, X2, Y1, Y2, -, -, -, -, -, -, G⟩ := hf
  have l1 := (low_is (t := T) (r := R) (b := B) (by omega)).pos
  have l2 := (low_is (t := T') (r := R') (b := B') (by omega)).pos
  have := gapH l1 l2 G (by rw [has_low p p']; exact y)
  rw [show hasB (lowT T R B) (lowR T R B) (lowB T R B) (lowT T' R' B') (lowR T' R' B') (lowB T' R' B') = hasB T R B T' R' B' from funext (has_low p p')] at this
  exact this
/-- the shift that a law has made of a corner and a spot: what is left of it -/
structure ShOk (T R B T' R' B' : Int) (c : C4) : Prop where
  sb : ShB T R B T' R' B'
  self : hasB T R B T' R' B' c = true
/-- c less d, put to c -/
theorem sidesF_back {f : C4 → Bool} {c : C4} {d : Int} (h0 : 0 ≤ d) (h7 : d ≤ 7) (h : f c = true) : (d + 4) % 8 ∈ sidesF f (stepC c d 1) 8 :=
  sidesF_mem.mpr ⟨((d + 4) % 8).toNat, by omega, by omega, by rw [step_back h0 h7]; exact h⟩
-- needs W19
local macro_rules | `(tactic| walk_at "s") => `(tactic| first | with_reducible refine L2.My.w_dnin ?_ | with_reducible refine L2.My.w_dput ?_ | with_reducible refine L2.My.w_dispT ?_)
instance decC4 : DecidableEq C4 := fun x y => if h : x.a = y.a ∧ x.b = y.b ∧ x.c = y.c ∧ x.d = y.d then .isTrue (by cases x; cases y; simp_all) else .isFalse fun e => h (by subst e; exact ⟨rfl, rfl, rfl, rfl⟩)
def corK (c : C4) : List L2.Key := [.inl c.a, .inl c.b, .inl c.c, .inl c.d]
def corD (c : C4) : PyData := .tuple [.int c.a, .int c.b, .int c.c, .int c.d]
theorem corK_inj {c d : C4} (h : corK c = corK d) : c = d := by
  simp only [corK, List.cons.injEq, Sum.inl.injEq] at h
  obtain ⟨h1, h2, h3, h4, _⟩ := h
  cases c
  cases d
  simp_all
/-- a dict of corners -/
def seenV (cs : List C4) : List (List L2.Key × V) := cs.map fun c => (corK c, .bl true)
theorem seen_val {cs : List C4} {c : C4} : (valV (seenV cs) (corK c)).isSome = decide (c ∈ cs) := by
  rw [← valV_any]
  unfold seenV
  rw [List.any_map, Bool.eq_iff_iff, List.any_eq_true, decide_eq_true_eq]
  constructor
  · rintro ⟨d, hd, e⟩
    rw [← corK_inj (of_decide_eq_true e)]
    exact hd
  · exact fun h => ⟨c, h, decide_eq_true rfl⟩
theorem seen_put {cs : List C4} {c : C4} (h : c ∉ cs) : putK (seenV cs) (corK c) (.bl true) = seenV (cs ++ [c]) := by
  unfold putK
  rw [valV_any, seen_val, decide_eq_false h, if_neg (by decide)]
  unfold seenV
  rw [List.map_append]
  rfl
theorem CorAt.kpt {H H' : Hp} {v : V} {c : C4} (h : CorAt H v c) (k : Kpt H H') : CorAt H' v c := by
  obtain ⟨p, rfl, e⟩ := h
  exact ⟨p, rfl, k.tup e⟩
/-- a row of corners -/
def CsAt (H : Hp) : List V → List C4 → Prop
  | [], [] => True
  | v :: vs, c :: cs => CorAt H v c ∧ CsAt H vs cs
  | _, _ => False
theorem CsAt.kpt {H H' : Hp} (k : Kpt H H') : ∀ {vs : List V} {cs : List C4}, CsAt H vs cs → CsAt H' vs cs
  | [], [], h => h
  | _ :: _, _ :: _, h => ⟨h.1.kpt k, CsAt.kpt k h.2⟩
  | [], _ :: _, h => h.elim
  | _ :: _, [], h => h.elim
theorem CsAt.len {H : Hp} : ∀ {vs : List V} {cs : List C4}, CsAt H vs cs → vs.length = cs.length
  | [], [], _ => rfl
  | _ :: _, _ :: _, h => congrArg (· + 1) (CsAt.len h.2)
  | [], _ :: _, h => h.elim
  | _ :: _, [], h => h.elim
theorem CsAt.add {H : Hp} {v : V} {c : C4} (hc : CorAt H v c) : ∀ {vs : List V} {cs : List C4}, CsAt H vs cs → CsAt H (vs ++ [v]) (cs ++ [c])
  | [], [], _ => ⟨hc, trivial⟩
  | _ :: _, _ :: _, h => ⟨h.1, CsAt.add hc h.2⟩
  | [], _ :: _, h => h.elim
  | _ :: _, [], h => h.elim
theorem CsAt.get {H : Hp} : ∀ {vs : List V} {cs : List C4} {i : Nat} {v : V}, CsAt H vs cs → vs[i]? = some v → ∃ c, cs[i]? = some c ∧ CorAt H v c
  | v :: _, c :: _, 0, _, h, e => by
    cases e
    exact ⟨c, rfl, h.1⟩
  | _ :: _, _ :: _, i + 1, _, h, e => CsAt.get (i := i) h.2 e
  | [], [], _, _, _, e => by simp at e
  | [], _ :: _, _, _, h, _ => h.elim
  | _ :: _, [], _, _, h, _ => h.elim
theorem cor_dp {K : PySem.W.Frag} {H : Hp} {v : V} {c : C4} (h : CorAt H v c) : Dp K H v (corD c) := by
  obtain ⟨p, rfl, e⟩ := h
  exact .tup (SqT.of e) (.cons (.int _) (.cons (.int _) (.cons (.int _) (.cons (.int _) .nil))))
theorem CsAt.dp {K : PySem.W.Frag} {H : Hp} : ∀ {vs : List V} {cs : List C4}, CsAt H vs cs → DpAll K H vs (cs.map corD)
  | [], [], _ => .nil
  | _ :: _, _ :: _, h => .cons (cor_dp h.1) (CsAt.dp h.2)
  | [], _ :: _, h => h.elim
  | _ :: _, [], h => h.elim
theorem CsAt.zip {H : Hp} : ∀ {vs : List V} {cs : List C4}, CsAt H vs cs → ∀ p ∈ vs.zip cs, CorAt H p.1 p.2
  | [], [], _, p, hp => by cases hp
  | v :: vs, c :: cs, h, p, hp => by
    rw [List.zip_cons_cons] at hp
    rcases List.mem_cons.mp hp with rfl | hp
    · exact h.1
    · exact CsAt.zip h.2 p hp
  | [], _ :: _, h, _, _ => h.elim
  | _ :: _, [], h, _, _ => h.elim
theorem CsAt.unzip {H : Hp} : ∀ {zs : List (V × C4)}, (∀ p ∈ zs, CorAt H p.1 p.2) → CsAt H (zs.map Prod.fst) (zs.map Prod.snd)
  | [], _ => trivial
  | z :: _, h => ⟨h z (by simp), CsAt.unzip fun p hp => h p (by simp [hp])⟩
/-- corners in order -/
def sortC (cs : List C4) : List C4 := cs.mergeSort (PySem.W.dataLe false corD)
theorem sortC_perm (cs : List C4) : (sortC cs).Perm cs := List.mergeSort_perm _ _
theorem srt_cs {H : Hp} {vs : List V} {cs : List C4} (h : CsAt H vs cs) : CsAt H ((srtD vs (cs.map corD)).map Prod.fst) (sortC cs) := by
  have e1 : ((vs.zip cs).mergeSort fun p q => PySem.W.dataLe false corD p.2 q.2).map (fun p => (p.1, corD p.2)) = srtD vs (cs.map corD) := by
    unfold srtD
    rw [List.zip_map_right]
    exact PySem.W.sort_maps _ fun _ _ _ _ => rfl
  have e2 : ((vs.zip cs).mergeSort fun p q => PySem.W.dataLe false corD p.2 q.2).map Prod.snd = sortC cs := by
    unfold sortC
    rw [PySem.W.sort_maps (s := PySem.W.dataLe false corD) Prod.snd fun _ _ _ _ => rfl]
    congr 1
    exact List.map_snd_zip (Nat.le_of_eq h.len.symm)
  rw [← e1, ← e2, List.map_map]
  exact CsAt.unzip fun p hp => h.zip p ((List.mergeSort_perm _ _).mem_iff.mp hp)
theorem corD_alike {cs : List C4} : PySem.W.AllAlike (cs.map corD) := PySem.W.AllAlike.of fun _ _ => rfl
theorem corD_sortable {cs : List C4} : PySem.W.Sortable (cs.map corD) := PySem.W.Sortable.tuples fun _ => ⟨_, _, rfl⟩
theorem k_sortedC {K : PySem.W.Frag} {H : Hp} {Q : VK} {l : Addr} {vs : List V} {cs : List C4} (h : H l = some (.lst vs)) (hc : CsAt H vs cs) (q : ∀ p H2 ws, H p = none → Same H H2 → H2 p = some (.lst ws) → CsAt H2 ws (sortC cs) → Q (.ref p) H2) : rSortedD K [.ref l] H Q := by
  refine ⟨l, vs, cs.map corD, rfl, SqL.of h, hc.dp, corD_alike, corD_sortable, fun d hd => ?_, fun p hp => q p _ _ hp (Same.new hp) upd_same ((srt_cs hc).kpt (Kpt.same (Same.new hp)))⟩
  obtain ⟨c, _, rfl⟩ := List.mem_map.mp hd
  exact Nat.le_of_ble_eq_true rfl
/-! rings about a corner -/
def Nr (n : Nat) (c o : C4) : Prop := (o.a - c.a).natAbs ≤ n ∧ (o.b - c.b).natAbs ≤ n ∧ (o.c - c.c).natAbs ≤ n ∧ (o.d - c.d).natAbs ≤ n
theorem Nr.step {n : Nat} {c o : C4} {d : Int} (h : Nr n c o) (h0 : 0 ≤ d) (h7 : d ≤ 7) : Nr (n + 1) c (stepC o d 1) := by
  obtain ⟨e1, e2, e3, e4⟩ := unit_add h0 h7 o
  obtain ⟨u1, u2, u3, u4⟩ := unit_bw h0 h7
  obtain ⟨h1, h2, h3, h4⟩ := h
  unfold Bw at u1 u2 u3 u4
  unfold Nr
  rw [e1, e2, e3, e4]
  omega
theorem Nr.mono {n m : Nat} {c o : C4} (h : Nr n c o) (l : n ≤ m) : Nr m c o := ⟨by have := h.1; omega, by have := h.2.1; omega, by have := h.2.2.1; omega, by have := h.2.2.2; omega⟩
theorem Nr.bw {k n : Nat} {c o : C4} (h : Nr n c o) (hn : n ≤ 200) (l : 8 ≤ k) (w : C4.bw k c) : C4.bw (k + 1) o := by
  obtain ⟨h1, h2, h3, h4⟩ := h
  obtain ⟨w1, w2, w3, w4⟩ := w
  have t : 256 ≤ 2 ^ k := Nat.le_trans (by decide : 256 ≤ 2 ^ 8) (Nat.pow_le_pow_right (by decide) l)
  have key : ∀ {x y : Int}, Bw k x → (y - x).natAbs ≤ n → Bw (k + 1) y := fun {x y} hx hy => by
    unfold Bw at *
    rw [Nat.pow_succ]
    omega
  exact ⟨key w1 h1, key w2 h2, key w3 h3, key w4 h4⟩
def codeC (c o : C4) : Nat := (((o.a - c.a + 8).toNat * 17 + (o.b - c.b + 8).toNat) * 17 + (o.c - c.c + 8).toNat) * 17 + (o.d - c.d + 8).toNat
theorem dig_lt {x a n : Nat} (h : x < n) (ha : a < 17) : x * 17 + a < n * 17 := by omega
theorem dig_eq {x y a b : Nat} (ha : a < 17) (hb : b < 17) (e : x * 17 + a = y * 17 + b) : x = y ∧ a = b := by omega
theorem dig_of {x y : Int} (h : (x - y).natAbs ≤ 8) : (x - y + 8).toNat < 17 := by omega
theorem dig_one {x y z : Int} (h : (x - z).natAbs ≤ 8) (k : (y - z).natAbs ≤ 8) (e : (x - z + 8).toNat = (y - z + 8).toNat) : x = y := by omega
theorem code_lt {c o : C4} (h : Nr 8 c o) : codeC c o < 83521 := dig_lt (dig_lt (dig_lt (dig_of h.1) (dig_of h.2.1)) (dig_of h.2.2.1)) (dig_of h.2.2.2)
theorem code_inj {c o u : C4} (h : Nr 8 c o) (k : Nr 8 c u) (e : codeC c o = codeC c u) : o = u := by
  obtain ⟨h1, h2, h3, h4⟩ := h
  obtain ⟨k1, k2, k3, k4⟩ := k
  obtain ⟨e, e4⟩ := dig_eq (dig_of h4) (dig_of k4) e
  obtain ⟨e, e3⟩ := dig_eq (dig_of h3) (dig_of k3) e
  obtain ⟨e1, e2⟩ := dig_eq (dig_of h2) (dig_of k2) e
  obtain ⟨a, b, x, y⟩ := o
  obtain ⟨a', b', x', y'⟩ := u
  have := dig_one h1 k1 e1
  have := dig_one h2 k2 e2
  have := dig_one h3 k3 e3
  have := dig_one h4 k4 e4
  simp_all
/-- corners met so far -/
structure SeenOk (f : C4 → Bool) (c : C4) (n : Nat) (cs : List C4) : Prop where
  nd : cs.Nodup
  nr : ∀ o ∈ cs, Nr n c o
  y : ∀ o ∈ cs, f o = true
theorem SeenOk.mono {f : C4 → Bool} {c : C4} {n m : Nat} {cs : List C4} (h : SeenOk f c n cs) (l : n ≤ m) : SeenOk f c m cs := ⟨h.nd, fun o ho => (h.nr o ho).mono l, h.y⟩
theorem SeenOk.few {f : C4 → Bool} {c : C4} {n : Nat} {cs : List C4} (h : SeenOk f c n cs) (hn : n ≤ 8) : cs.length ≤ 83521 :=
  nodup_few (codeC c) h.nd (fun o ho => code_lt ((h.nr o ho).mono hn)) fun x hx y hy e => code_inj ((h.nr x hx).mono hn) ((h.nr y hy).mono hn) e
theorem SeenOk.add {f : C4 → Bool} {c o : C4} {n : Nat} {cs : List C4} (h : SeenOk f c n cs) (m : o ∉ cs) (r : Nr n c o) (y : f o = true) : SeenOk f c n (cs ++ [o]) := by
  refine ⟨?_, fun u hu => ?_, fun u hu => ?_⟩
  · rw [List.nodup_append]
    exact ⟨h.nd, by simp, fun a ha b hb => by obtain rfl := List.mem_singleton.mp hb; exact fun z => m (z ▸ ha)⟩
  · rcases List.mem_append.mp hu with hu | hu
    · exact h.nr u hu
    · obtain rfl := List.mem_singleton.mp hu
      exact r
  · rcases List.mem_append.mp hu with hu | hu
    · exact h.y u hu
    · obtain rfl := List.mem_singleton.mp hu
      exact y
/-- corners met, and new ones of this ring -/
structure RingOk (f : C4 → Bool) (c : C4) (n : Nat) (st : List C4 × List C4) : Prop where
  s : SeenOk f c n st.1
  sub : ∀ o ∈ st.2, o ∈ st.1
  le : st.2.length ≤ st.1.length
def add1 (st : List C4 × List C4) (o : C4) : List C4 × List C4 := if o ∈ st.1 then st else (st.1 ++ [o], st.2 ++ [o])
theorem RingOk.add1 {f : C4 → Bool} {c o : C4} {n : Nat} {st : List C4 × List C4} (h : RingOk f c n st) (r : Nr n c o) (y : f o = true) : RingOk f c n (add1 st o) := by
  unfold My.add1
  split
  · exact h
  · rename_i m
    refine ⟨h.s.add m r y, fun u hu => ?_, ?_⟩
    · rcases List.mem_append.mp hu with hu | hu
      · exact List.mem_append_left _ (h.sub u hu)
      · exact List.mem_append_right _ hu
    · rw [List.length_append, List.length_append]
      exact Nat.add_le_add_right h.le _
def dirsF (f : C4 → Bool) (o : C4) : List C4 := (sidesF f o 8).map fun d => stepC o d 1
theorem dirsF_mem {f : C4 → Bool} {n : Nat} {c o u : C4} (h : Nr n c o) (m : u ∈ dirsF f o) : Nr (n + 1) c u ∧ f u = true := by
  obtain ⟨d, hd, rfl⟩ := List.mem_map.mp m
  obtain ⟨k, hk, rfl, y⟩ := sidesF_mem.mp hd
  exact ⟨h.step (by omega) (by omega), y⟩
def ring1 (f : C4 → Bool) (st : List C4 × List C4) (o : C4) : List C4 × List C4 := (dirsF f o).foldl add1 st
theorem RingOk.foldl {f : C4 → Bool} {c : C4} {n : Nat} : ∀ {us : List C4} {st : List C4 × List C4}, RingOk f c n st → (∀ u ∈ us, Nr n c u ∧ f u = true) → RingOk f c n (us.foldl My.add1 st)
  | [], _, h, _ => h
  | u :: _, st, h, m => RingOk.foldl (st := My.add1 st u) (h.add1 (m u (by simp)).1 (m u (by simp)).2) fun v hv => m v (by simp [hv])
theorem RingOk.ring1 {f : C4 → Bool} {c o : C4} {n : Nat} {st : List C4 × List C4} (h : RingOk f c (n + 1) st) (r : Nr n c o) : RingOk f c (n + 1) (ring1 f st o) := h.foldl fun _ m => dirsF_mem r m
def ringA (f : C4 → Bool) (seen last : List C4) : List C4 × List C4 := last.foldl (ring1 f) (seen, [])
theorem RingOk.rings {f : C4 → Bool} {c : C4} {n : Nat} : ∀ {us : List C4} {st : List C4 × List C4}, RingOk f c (n + 1) st → (∀ u ∈ us, Nr n c u) → RingOk f c (n + 1) (us.foldl (My.ring1 f) st)
  | [], _, h, _ => h
  | u :: _, st, h, m => RingOk.rings (st := My.ring1 f st u) (h.ring1 (m u (by simp))) fun v hv => m v (by simp [hv])
/-- what is met, the last ring, all rings -/
def ringsN (f : C4 → Bool) (c : C4) : Nat → List C4 × List C4 × List (List C4)
  | 0 => ([c], [c], [[c]])
  | n + 1 => ((ringA f (ringsN f c n).1 (ringsN f c n).2.1).1, sortC (ringA f (ringsN f c n).1 (ringsN f c n).2.1).2, (ringsN f c n).2.2 ++ [sortC (ringA f (ringsN f c n).1 (ringsN f c n).2.1).2])
structure AllOk (f : C4 → Bool) (c : C4) (n : Nat) (t : List C4 × List C4 × List (List C4)) : Prop where
  s : SeenOk f c n t.1
  last : ∀ o ∈ t.2.1, o ∈ t.1
  rings : ∀ r ∈ t.2.2, ∀ o ∈ r, Nr n c o
  len : t.2.2.length = n + 1
  few : ∀ r ∈ t.2.2, n ≤ 8 → r.length ≤ 83521
theorem ringA_ok {f : C4 → Bool} {c : C4} {n : Nat} {seen last : List C4} (h : SeenOk f c n seen) (l : ∀ o ∈ last, o ∈ seen) : RingOk f c (n + 1) (ringA f seen last) :=
  RingOk.rings ⟨h.mono (by omega), (fun _ h => nomatch h), Nat.zero_le _⟩ fun u hu => h.nr u (l u hu)
theorem rings_ok {f : C4 → Bool} {c : C4} (y : f c = true) : ∀ n, AllOk f c n (ringsN f c n)
  | 0 => by
    have n0 : Nr 0 c c := by unfold Nr; omega
    exact ⟨⟨by show [c].Nodup; simp, fun o ho => by obtain rfl := List.mem_singleton.mp ho; exact n0, fun o ho => by obtain rfl := List.mem_singleton.mp ho; exact y⟩, fun _ h => h, fun r hr o ho => by obtain rfl := List.mem_singleton.mp hr; obtain rfl := List.mem_singleton.mp ho; exact n0, rfl, fun r hr _ => by obtain rfl := List.mem_singleton.mp hr; exact Nat.le_of_ble_eq_true rfl⟩
  | n + 1 => by
    have h := rings_ok y n
    have r := ringA_ok h.s h.last
    refine ⟨r.s, fun o ho => r.sub o ((sortC_perm _).mem_iff.mp ho), fun u hu o ho => ?_, ?_, fun u hu hn => ?_⟩
    · rcases List.mem_append.mp hu with hu | hu
      · exact (h.rings u hu o ho).mono (by omega)
      · obtain rfl := List.mem_singleton.mp hu
        exact r.s.nr o (r.sub o ((sortC_perm _).mem_iff.mp ho))
    · show ((ringsN f c n).2.2 ++ _).length = _
      rw [List.length_append, h.len]
      rfl
    · rcases List.mem_append.mp hu with hu | hu
      · exact h.few u hu (by omega)
      · obtain rfl := List.mem_singleton.mp hu
        rw [(sortC_perm _).length_eq]
        exact Nat.le_trans r.le (r.s.few hn)
/-- rows of corners, where N holds of each row's place -/
def RsAt (H : Hp) (N : Addr → Prop) : List V → List (List C4) → Prop
  | [], [] => True
  | v :: vs, r :: rs => (∃ l ws, v = .ref l ∧ N l ∧ H l = some (.lst ws) ∧ CsAt H ws r) ∧ RsAt H N vs rs
  | _, _ => False
theorem RsAt.keep {H H' : Hp} {N : Addr → Prop} (k : Kpt H H') (kl : ∀ l ws, N l → H l = some (.lst ws) → H' l = some (.lst ws)) : ∀ {vs : List V} {rs : List (List C4)}, RsAt H N vs rs → RsAt H' N vs rs
  | [], [], h => h
  | _ :: _, _ :: _, h => by
    obtain ⟨⟨l, ws, rfl, n, e, c⟩, t⟩ := h
    exact ⟨⟨l, ws, rfl, n, kl l ws n e, c.kpt k⟩, RsAt.keep k kl t⟩
  | [], _ :: _, h => h.elim
  | _ :: _, [], h => h.elim
theorem RsAt.same {H H' : Hp} {N : Addr → Prop} (s : Same H H') {vs : List V} {rs : List (List C4)} (h : RsAt H N vs rs) : RsAt H' N vs rs := h.keep (Kpt.same s) fun _ _ _ e => s _ _ e
theorem RsAt.len {H : Hp} {N : Addr → Prop} : ∀ {vs : List V} {rs : List (List C4)}, RsAt H N vs rs → vs.length = rs.length
  | [], [], _ => rfl
  | _ :: _, _ :: _, h => congrArg (· + 1) (RsAt.len h.2)
  | [], _ :: _, h => h.elim
  | _ :: _, [], h => h.elim
theorem RsAt.add {H : Hp} {N : Addr → Prop} {l : Addr} {ws : List V} {r : List C4} (n : N l) (e : H l = some (.lst ws)) (c : CsAt H ws r) : ∀ {vs : List V} {rs : List (List C4)}, RsAt H N vs rs → RsAt H N (vs ++ [.ref l]) (rs ++ [r])
  | [], [], _ => ⟨⟨l, ws, rfl, n, e, c⟩, trivial⟩
  | _ :: _, _ :: _, h => ⟨h.1, RsAt.add n e c h.2⟩
  | [], _ :: _, h => h.elim
  | _ :: _, [], h => h.elim
theorem RsAt.dp {K : PySem.W.Frag} {H : Hp} {N : Addr → Prop} : ∀ {vs : List V} {rs : List (List C4)}, RsAt H N vs rs → DpAll K H vs (rs.map fun r => .list (r.map corD))
  | [], [], _ => .nil
  | _ :: _, _ :: _, h => by
    obtain ⟨⟨l, ws, rfl, n, e, c⟩, t⟩ := h
    exact .cons (.lst (SqL.of e) c.dp) (RsAt.dp t)
  | [], _ :: _, h => h.elim
  | _ :: _, [], h => h.elim
theorem RsAt.get {H : Hp} {N : Addr → Prop} : ∀ {vs : List V} {rs : List (List C4)} {i : Nat} {v : V}, RsAt H N vs rs → vs[i]? = some v → ∃ l ws r, v = .ref l ∧ N l ∧ H l = some (.lst ws) ∧ CsAt H ws r ∧ r ∈ rs
  | v :: _, r :: _, 0, _, h, e => by
    cases e
    obtain ⟨⟨l, ws, e1, n, e2, c⟩, -⟩ := h
    exact ⟨l, ws, r, e1, n, e2, c, by simp⟩
  | _ :: _, _ :: _, i + 1, _, h, e => by
    obtain ⟨l, ws, r, e1, n, e2, c, m⟩ := RsAt.get (i := i) h.2 e
    exact ⟨l, ws, r, e1, n, e2, c, by simp [m]⟩
  | [], [], _, _, _, e => by simp at e
  | [], _ :: _, _, _, h, _ => h.elim
  | _ :: _, [], _, _, h, _ => h.elim
theorem foldl_take {α β : Type} {g : β → α → β} {b : β} {xs : List α} {i : Nat} {x : α} (h : xs[i]? = some x) : (xs.take (i + 1)).foldl g b = g ((xs.take i).foldl g b) x := by
  rw [List.take_add_one, h, List.foldl_append]
  rfl
-- needs W15
local macro_rules | `(tactic| walk_at "s") => `(tactic| first | with_reducible refine L2.My.w_chain3 ?_ | with_reducible refine L2.My.w_lcZT ?_ | with_reducible refine L2.My.w_forEn ?_)
theorem k_tup3n {K : PySem.W.Frag} {T : Addr} {x y z : V} {σ σ' : L2.St} {H : Hp} {i j k : Nat} {N : L2.St → Hp → Prop} {n : Nat} (hT : H T = some (.tup [x, y, z])) (hn : n = 3) (hσ : ((σ.set i (some x)).set j (some y)).set k (some z) = σ') (q : N σ' H) :
    gTup K n (gCons (gName i) (gCons (gName j) (gCons (gName k) gNil))) (.ref T) σ H N := by
  subst hσ
  exact ⟨T, [x, y, z], rfl, SqT.of hT, by rw [hn]; rfl, x, _, rfl, y, _, rfl, z, [], rfl, rfl, q⟩
/-- a tile -/
def TileAt (H : Hp) (v : V) (c : C4) (i j : Int) : Prop := ∃ p x, v = .ref p ∧ H p = some (.tup [x, .int i, .int j]) ∧ CorAt H x c
theorem TileAt.kps {H H' : Hp} {v : V} {c : C4} {i j : Int} (h : TileAt H v c i j) (s : Kps H H') : TileAt H' v c i j := by
  obtain ⟨p, x, rfl, e, h⟩ := h
  exact ⟨p, x, rfl, s.tup e, h.kps s⟩
/-- a thing that is no tile -/
def NoTile (Z : Zs) (H : Hp) (v : V) : Prop := (Plain H v ∧ isTu H v = false) ∨ (∃ p xs, v = .ref p ∧ H p = some (.tup xs) ∧ xs.length ≠ 3) ∨ ∃ p x y z, v = .ref p ∧ H p = some (.tup [x, y, z]) ∧
  (BadCor Z H x ∨ (∃ c, CorAt H x c) ∧ ThI Z H y ∧ (isI y = false ∨ ∃ i, y = .int i ∧ ThI Z H z ∧ (isI z = false ∨ ∃ j, z = .int j ∧ ¬ (0 ≤ i ∧ i < j ∧ j ≤ 3))))
abbrev s_is_tile : Stmt := top 27
theorem sc_is_tile : FnScope ["thing", "corner", "i", "j"] ["thing"] (defScope s_is_tile) := ⟨rfl, rfl, rfl, by decide +kernel, rfl, by decide +kernel, by decide +kernel⟩

def sp_is_tile (Z : Zs) : Sp := fun vs H Q E =>
  ∃ v, vs = [v] ∧ ((NoTile Z H v ∧ ∀ H', Same H H' → Q (.bl false) H') ∨ ∃ c i j, TileAt H v c i j ∧ 0 ≤ i ∧ i < j ∧ j ≤ 3 ∧ ∀ H', Same H H' → Q (.bl true) H')
theorem ok_is_tile (T : Txt Z mg) (h_is_integral : Has P w Z.K mg base "is_integral" 1 ["thing"] (sp_is_integral Z)) (h_is_corner : Has P w Z.K mg base "is_corner" 2 ["thing"] (sp_is_corner Z)) (D : AtF Z.K mg "is_tile" "is_tile" s_is_tile ["thing"]) : Has P w Z.K mg base "is_tile" 3 ["thing"] (sp_is_tile Z) := by
  refine D.ok sc_is_tile (fun vs H Q E h => ?_) (fun cdv A outer s H vs Q E hr h => ?_)
  · obtain ⟨v, rfl, _⟩ := h
    rfl
  · refine ⟨_, (pss_cons (ps_if (PW.pt (pw_or (pt_not (pt_val (pe_callB call_isi rfl T.n_isinstance (by decide +kernel) (pa_cons (pv 0) (pa_cons (pe_bltn (v := .ty "tuple") rfl T.n_tuple (by decide +kernel) rfl) pa_nil))))) (pw_or1 (pt_cmpR op_ne (pe_callB cn_len rfl T.n_len (by decide +kernel) (pa_cons (pv 0) pa_nil)) pe_int (nomark _))))) (pss_one (ps_ret pe_bl)) pss_nil)
      (pss_cons (ps_asg (pv 0) (pg_tup rfl (pgs_cons (pg_name (i := 1) sc_is_tile.nd rfl (Or.inl rfl)) (pgs_cons (pg_name (i := 2) sc_is_tile.nd rfl (Or.inl rfl)) (pgs_cons (pg_name (i := 3) sc_is_tile.nd rfl (Or.inl rfl)) pgs_nil)))))
      (pss_one (ps_ret (pe_and (pe_h (E := ED E) h_is_corner hr (paW (takes_of rfl rfl rfl rfl)) (pa_cons (pv 1) pa_nil)) (pe_and (pe_h (E := ED E) h_is_integral hr (paW (takes_of rfl rfl rfl rfl)) (pa_cons (pv 2) pa_nil)) (pe_and (pe_h (E := ED E) h_is_integral hr (paW (takes_of rfl rfl rfl rfl)) (pa_cons (pv 3) pa_nil)) (pe_one (pe_chain3 op_le op_lt op_le pe_int (pv 2) (pv 3) pe_int))))))))), ?_⟩
    try simp only [cxOf]
    obtain ⟨v, rfl, ⟨hn, q⟩ | ⟨c, i, j, ⟨p, x, rfl, hp, pc, rfl, hc⟩, i0, ij, j3, q⟩⟩ := h
    · rcases hn with ⟨pl, nt⟩ | ⟨p, xs, rfl, hp, ne⟩ | ⟨p, x, y, z, rfl, hp, hh⟩
      · obtain ⟨ty, hty, _, _, k⟩ := pl.ty (K := Z.K)
        rw [nt] at k
        walk_at "W"
        refine w_isi hty k ?_
        walk_at "W"
        exact q H (Same.refl _)
      · obtain ⟨ty, hty, _, _, k⟩ := (Plain.tup p _ hp).ty (K := Z.K)
        rw [isTu_tup hp] at k
        walk_at "W"
        refine w_isi hty k ?_
        walk_at "W"
        refine w_lenT (SqT.of hp) ?_
        walk_at "W"
        rw [show decide (V.int ((xs.length : Nat) : Int) = V.int 3) = false from (dec_len (k := 3)).trans (decide_eq_false ne)]
        walk_at "W"
        exact q H (Same.refl _)
      · obtain ⟨ty, hty, _, _, k⟩ := (Plain.tup p _ hp).ty (K := Z.K)
        rw [isTu_tup hp] at k
        walk_at "W"
        refine w_isi hty k ?_
        walk_at "W"
        refine w_lenT (SqT.of hp) ?_
        walk_at "W"
        refine k_tup3n hp rfl rfl ?_
        walk_at "W"
        rcases hh with (⟨pl, nt⟩ | ⟨px, xs, rfl, hx, hl, hth, nc⟩) | ⟨⟨c, pc, rfl, hc⟩, hy, hyz⟩
        · refine ⟨x, rfl, .inl ⟨pl, nt, ?_⟩⟩
          walk_at "W"
          exact q H (Same.refl _)
        · refine ⟨_, rfl, .inr ⟨px, xs, rfl, hx, hl, hth, fun H1 s1 => ?_⟩⟩
          rw [nc]
          walk_at "W"
          exact q _ s1
        · refine ⟨_, rfl, .inr ⟨pc, _, rfl, hc, by simp, fun x hx => ?_, fun H1 s1 => ?_⟩⟩
          · simp only [List.mem_cons, List.not_mem_nil, or_false] at hx
            rcases hx with rfl | rfl | rfl | rfl <;> exact (Plain.int _).thI
          rw [show isCor [V.int c.a, .int c.b, .int c.c, .int c.d] = true from rfl]
          walk_at "W"
          refine ⟨y, rfl, thI_same hy s1, ?_⟩
          rcases hyz with ny | ⟨i, rfl, hz, hzz⟩
          · rw [ny]
            walk_at "W"
            exact q _ s1
          · rw [show isI (V.int i) = true from rfl]
            walk_at "W"
            refine ⟨z, rfl, thI_same hz s1, ?_⟩
            rcases hzz with nz | ⟨j, rfl, nij⟩
            · rw [nz]
              walk_at "W"
              exact q _ s1
            · rw [show isI (V.int j) = true from rfl]
              walk_at "W"
              by_cases h0 : 0 ≤ i
              · rw [decide_eq_true h0]
                walk_at "W"
                by_cases h1 : i < j
                · rw [decide_eq_true h1]
                  walk_at "W"
                  rw [decide_eq_false (show ¬ j ≤ 3 by omega)]
                  exact q _ s1
                · rw [decide_eq_false h1]
                  walk_at "W"
                  exact q _ s1
              · rw [decide_eq_false h0]
                walk_at "W"
                exact q _ s1
    · obtain ⟨ty, hty, _, _, k⟩ := (Plain.tup p _ hp).ty (K := Z.K)
      rw [isTu_tup hp] at k
      walk_at "W"
      refine w_isi hty k ?_
      walk_at "W"
      refine w_lenT (SqT.of hp) ?_
      walk_at "W"
      refine k_tup3n hp rfl rfl ?_
      walk_at "W"
      refine ⟨_, rfl, .inr ⟨pc, _, rfl, hc, by simp, fun x hx => ?_, fun H1 s1 => ?_⟩⟩
      · simp only [List.mem_cons, List.not_mem_nil, or_false] at hx
        rcases hx with rfl | rfl | rfl | rfl <;> exact (Plain.int _).thI
      rw [show isCor [V.int c.a, .int c.b, .int c.c, .int c.d] = true from rfl]
      walk_at "W"
      refine ⟨_, rfl, (Plain.int _).thI, ?_⟩
      rw [show isI (V.int i) = true from rfl]
      walk_at "W"
      refine ⟨_, rfl, (Plain.int _).thI, ?_⟩
      rw [show isI (V.int j) = true from rfl]
      walk_at "W"
      rw [decide_eq_true i0]
      walk_at "W"
      rw [decide_eq_true ij]
      walk_at "W"
      rw [decide_eq_true j3]
      exact q _ s1
-- needs W20
/-- the corners of a tile -/
def corsT (c : C4) (i j : Int) : List C4 := [c, stepC c i 1, stepC c j 1, stepC (stepC c i 1) j 1]
theorem corsT_bw {n : Nat} {c o : C4} {i j : Int} (i0 : 0 ≤ i) (i7 : i ≤ 7) (j0 : 0 ≤ j) (j7 : j ≤ 7) (w : C4.bw n c) (h : o ∈ corsT c i j) : C4.bw (n + 2) o := by
  simp only [corsT, List.mem_cons, List.not_mem_nil, or_false] at h
  rcases h with rfl | rfl | rfl | rfl
  · exact w.mono (by omega)
  · exact (step_bw i0 i7 w).mono (by omega)
  · exact (step_bw j0 j7 w).mono (by omega)
  · exact step_bw j0 j7 (step_bw i0 i7 w)
theorem TileAt.kpt {H H' : Hp} {v : V} {c : C4} {i j : Int} (h : TileAt H v c i j) (k : Kpt H H') : TileAt H' v c i j := by
  obtain ⟨p, x, rfl, e, h⟩ := h
  exact ⟨p, x, rfl, k.tup e, h.kpt k⟩
theorem TileAt.same {H H' : Hp} {v : V} {c : C4} {i j : Int} (h : TileAt H v c i j) (k : Same H H') : TileAt H' v c i j := h.kpt (Kpt.same k)
theorem NoTile.same {Z : Zs} {H H' : Hp} {v : V} (h : NoTile Z H v) (s : Same H H') : NoTile Z H' v := by
  rcases h with ⟨pl, nt⟩ | ⟨p, xs, rfl, hp, ne⟩ | ⟨p, x, y, z, rfl, hp, hh⟩
  · exact .inl ⟨pl.same s, (isTu_same pl s).trans nt⟩
  · exact .inr (.inl ⟨p, xs, rfl, s _ _ hp, ne⟩)
  · refine .inr (.inr ⟨p, x, y, z, rfl, s _ _ hp, ?_⟩)
    rcases hh with b | ⟨⟨c, hc⟩, ty, hh⟩
    · exact .inl (b.same s)
    · refine .inr ⟨⟨c, hc.same s⟩, thI_same ty s, ?_⟩
      rcases hh with e | ⟨i, rfl, tz, e⟩
      · exact .inl e
      · exact .inr ⟨i, rfl, thI_same tz s, e⟩
abbrev s_check_tile : Stmt := top 28
theorem sc_check_tile : FnScope ["tile"] ["tile"] (defScope s_check_tile) := ⟨rfl, rfl, rfl, by decide +kernel, rfl, by decide +kernel, by decide +kernel⟩

def sp_check_tile (Z : Zs) : Sp := fun vs H Q E =>
  ∃ v, vs = [v] ∧ (NoTile Z H v ∧ ErX Z.c_BadTile "tile" v H E ∨ ∃ c i j, TileAt H v c i j ∧ 0 ≤ i ∧ i < j ∧ j ≤ 3 ∧ ∀ H', Same H H' → Q .non H')
theorem ok_check_tile (T : Txt Z mg) (h_is_tile : Has P w Z.K mg base "is_tile" 3 ["thing"] (sp_is_tile Z)) (h_BadTile : HasX P w Z.K mg base "BadTile" Z.c_BadTile 1 ["self", "tile"] (sp_BadTile_init Z)) (D : AtF Z.K mg "check_tile" "check_tile" s_check_tile ["tile"]) : Has P w Z.K mg base "check_tile" 4 ["tile"] (sp_check_tile Z) := by
  refine D.ok sc_check_tile (fun vs H Q E h => ?_) (fun cdv A outer s H vs Q E hr h => ?_)
  · obtain ⟨v, rfl, _⟩ := h
    rfl
  · refine ⟨_, (pss_one (ps_if (pt_not (pt_val (pe_h (E := ED E) h_is_tile hr (paW (takes_of rfl rfl rfl rfl)) (pa_cons (pv 0) pa_nil)))) (pss_one (ps_raise rfl (takes_of rfl rfl rfl rfl) (pm_h T.x_BadTile h_BadTile hr (pa_cons (pv 0) pa_nil)))) pss_nil)), ?_⟩
    try simp only [cxOf]
    obtain ⟨v, rfl, ⟨n, er⟩ | ⟨c, i, j, ht, i0, ij, j3, q⟩⟩ := h
    · walk_at "W"
      refine ⟨_, rfl, .inl ⟨n, fun H1 s1 => ?_⟩⟩
      walk_at "W"
      exact k_mkO (er.same s1)
    · walk_at "W"
      refine ⟨_, rfl, .inr ⟨c, i, j, ht, i0, ij, j3, fun H1 s1 => ?_⟩⟩
      walk_at "W"
      exact q H1 s1
abbrev s_tile_corners : Stmt := top 29
theorem sc_tile_corners : FnScope ["tile", "corner", "i", "j", "one", "other"] ["tile"] (defScope s_tile_corners) := ⟨rfl, rfl, rfl, by decide +kernel, rfl, by decide +kernel, by decide +kernel⟩

def sp_tile_corners (Z : Zs) : Sp := fun vs H Q E =>
  ∃ v, vs = [v] ∧ (NoTile Z H v ∧ ErX Z.c_BadTile "tile" v H E ∨ ∃ c i j, TileAt H v c i j ∧ 0 ≤ i ∧ i < j ∧ j ≤ 3 ∧ ∀ u ws H', Same H H' → H' u = some (.tup ws) → CsAt H' ws (sortC (corsT c i j)) → Q (.ref u) H')
theorem ok_tile_corners (T : Txt Z mg) (h_step : Has P w Z.K mg base "step" 1 ["corner", "direction", "many"] (sp_step Z)) (h_check_tile : Has P w Z.K mg base "check_tile" 4 ["tile"] (sp_check_tile Z)) (D : AtF Z.K mg "tile_corners" "tile_corners" s_tile_corners ["tile"]) : Has P w Z.K mg base "tile_corners" 5 ["tile"] (sp_tile_corners Z) := by
  refine D.ok sc_tile_corners (fun vs H Q E h => ?_) (fun cdv A outer s H vs Q E hr h => ?_)
  · obtain ⟨v, rfl, _⟩ := h
    rfl
  · refine ⟨_, (pss_cons (ps_expr (pe_h (E := ED E) h_check_tile hr (paW (takes_of rfl rfl rfl rfl)) (pa_cons (pv 0) pa_nil)))
      (pss_cons (ps_asg (pv 0) (pg_tup rfl (pgs_cons (pg_name (i := 1) sc_tile_corners.nd rfl (Or.inl rfl)) (pgs_cons (pg_name (i := 2) sc_tile_corners.nd rfl (Or.inl rfl)) (pgs_cons (pg_name (i := 3) sc_tile_corners.nd rfl (Or.inl rfl)) pgs_nil)))))
      (pss_cons (ps_set (i := 4) sc_tile_corners.nd rfl (Or.inl rfl) (pe_h (E := ED E) h_step hr (paW (takes_of rfl rfl rfl rfl)) (pa_cons (pv 1) (pa_cons (pv 2) (pa_cons pe_int pa_nil)))))
      (pss_cons (ps_set (i := 5) sc_tile_corners.nd rfl (Or.inl rfl) (pe_h (E := ED E) h_step hr (paW (takes_of rfl rfl rfl rfl)) (pa_cons (pv 1) (pa_cons (pv 3) (pa_cons pe_int pa_nil)))))
      (pss_one (ps_ret (pe_callTy cn_tuple rfl T.n_tuple (by decide +kernel) (pa_cons (pe_callB (cr_sortedD hr.units) rfl T.n_sorted (by decide +kernel) (pa_cons (pe_lst (pa_cons (pv 1) (pa_cons (pv 4) (pa_cons (pv 5) (pa_cons (pe_h (E := ED E) h_step hr (paW (takes_of rfl rfl rfl rfl)) (pa_cons (pv 4) (pa_cons (pv 3) (pa_cons pe_int pa_nil)))) pa_nil))))) pa_nil)) pa_nil)))))))), ?_⟩
    try simp only [cxOf]
    obtain ⟨v, rfl, ⟨n, er⟩ | ⟨c, i, j, ht, i0, ij, j3, q⟩⟩ := h
    · walk_at "W"
      exact ⟨_, rfl, .inl ⟨n, er⟩⟩
    walk_at "W"
    refine ⟨_, rfl, .inr ⟨c, i, j, ht, i0, ij, j3, fun H1 s1 => ?_⟩⟩
    obtain ⟨p, x, rfl, hp, hc⟩ := ht.same s1
    walk_at "W"
    refine k_tup3n hp rfl rfl ?_
    walk_at "W"
    refine ⟨x, c, _, _, rfl, hc, by omega, by omega, fun v1 H2 s2 h2 => ?_⟩
    walk_at "W"
    refine ⟨x, c, _, _, rfl, hc.same s2, by omega, by omega, fun v2 H3 s3 h3 => ?_⟩
    walk_at "W"
    refine ⟨v1, _, _, _, rfl, h2.same s3, by omega, by omega, fun v3 H4 s4 h4 => ?_⟩
    walk_at "W"
    refine k_lst rfl fun l H5 hl s5 e5 => ?_
    have cs : CsAt H5 [x, v1, v2, v3] (corsT c i j) := ⟨hc.same (s2.trans (s3.trans (s4.trans s5))), h2.same (s3.trans (s4.trans s5)), h3.same (s4.trans s5), h4.same s5, trivial⟩
    walk_at "W"
    refine k_sortedC e5 cs fun l2 H6 ws hl2 s6 e6 cs6 => ?_
    walk_at "W"
    refine w_tupL e6 fun u H7 hu s7 e7 => ?_
    exact q u ws H7 (s1.trans (s2.trans (s3.trans (s4.trans (s5.trans (s6.trans s7)))))) e7 (cs6.kpt (Kpt.same s7))
theorem cs_all {f : C4 → Bool} {cs : List C4} : ((sortC cs).map f).all id = cs.all f := by
  rw [List.all_map]
  exact (sortC_perm cs).all_eq
theorem map_bl_take {cs : List C4} {f : C4 → Bool} {i : Nat} {c : C4} (h : cs[i]? = some c) : ((cs.take (i + 1)).map f).map V.bl = ((cs.take i).map f).map V.bl ++ [.bl (f c)] := by
  rw [List.take_add_one, h, List.map_append, List.map_append]
  rfl
abbrev s_Floor_has_tile : Stmt := inClass (top 41) 5
theorem sc_Floor_has_tile : FnScope ["self", "tile", "corner"] ["self", "tile"] (defScope s_Floor_has_tile) := ⟨rfl, rfl, rfl, by decide +kernel, rfl, by decide +kernel, by decide +kernel⟩

def sp_Floor_has_tile (Z : Zs) : Sp := fun vs H Q E =>
  ∃ v o t r b t' r' b', vs = [v, o] ∧ FloorAt Z H v t r b t' r' b' ∧ 0 < b ∧ 0 < b' ∧ (NoTile Z H o ∧ ErX Z.c_BadTile "tile" o H E ∨ ∃ c i j, TileAt H o c i j ∧ 0 ≤ i ∧ i < j ∧ j ≤ 3 ∧ C4.bw 500 c ∧ ∀ H', Same H H' → Q (.bl ((corsT c i j).all (hasB t r b t' r' b'))) H')
theorem ok_Floor_has_tile (T : Txt Z mg) (h_tile_corners : Has P w Z.K mg base "tile_corners" 5 ["tile"] (sp_tile_corners Z)) (h_in_window : Has P w Z.K mg base "in_window" 3 ["gauge", "corner"] (sp_in_window Z)) (D : AtM Z.K Z.c_Floor "has_tile" "Floor.has_tile" s_Floor_has_tile ["self", "tile"]) : HasM P w Z.K mg base Z.c_Floor "has_tile" 6 ["self", "tile"] (sp_Floor_has_tile Z) := by
  refine D.ok sc_Floor_has_tile (fun vs H Q E h => ?_) (fun cdv A outer s H vs Q E hr h => ?_)
  · obtain ⟨v, o, t, r, b, t', r', b', rfl, _⟩ := h
    rfl
  · refine ⟨_, (pss_one (ps_ret (pe_callB (cr_all rfl) rfl T.n_all (by decide +kernel) (pa_cons (pe_lc (own := [("corner", 2)]) (g := gName 2) rfl sc_Floor_has_tile.nd (pi_tup (pe_h (E := ED E) h_tile_corners hr (paW (takes_of rfl rfl rfl rfl)) (pa_cons (pv 1) pa_nil))) (blkOk_by (N := ["self", "tile", "corner"]) (sc := defScope s_Floor_has_tile) (by decide +kernel)) (fun _ _ _ _ _ => pg_name (i := 2) sc_Floor_has_tile.nd rfl (Or.inl rfl)) (fun _ _ _ _ _ => pts_nil) (fun _ _ _ _ _ => (pe_h (E := fun _ => E0) h_in_window hr pa0 (pa_cons (pe_fldZ (K := Z.K) rfl (pv 0) rfl) (pa_cons (pv 2) pa_nil))))) pa_nil)))), ?_⟩
    try simp only [cxOf]
    obtain ⟨v, o, t, r, b, t', r', b', rfl, hf, pb, pb', ⟨n, er⟩ | ⟨c, i, j, ht, i0, ij, j3, wc, q⟩⟩ := h
    · walk_at "W"
      exact ⟨_, rfl, .inl ⟨n, er⟩⟩
    walk_at "W"
    refine ⟨_, rfl, .inr ⟨c, i, j, ht, i0, ij, j3, fun u ws H1 s1 e1 cs => ?_⟩⟩
    obtain ⟨a, dx, us, g, vx, vy, D, X1, X2, Y1, Y2, rfl, f1, f2, f3, f4, f5, G⟩ := hf.same s1
    refine k_lcT (xs := ws) (fun k D' H' => H1 D' = none ∧ H' D' = some (.lst ((((sortC (corsT c i j)).take k).map (hasB t r b t' r' b')).map V.bl)) ∧ Same H1 H') e1 (fun D' hD => ⟨hD, upd_same, Same.new hD⟩) (fun k D' H' h => h.2.2 _ _ e1) ?_ ?_
    · rintro k x D' H' hx ⟨hD, ed, ss⟩
      obtain ⟨o, ho, co⟩ := (cs.kpt (Kpt.same ss)).get hx
      have mo : o ∈ corsT c i j := (sortC_perm _).mem_iff.mp (List.mem_of_getElem? ho)
      have wo : C4.bw 502 o := corsT_bw i0 (by omega) (by omega) (by omega) wc mo
      obtain ⟨po, rfl, hpo⟩ := co
      refine ⟨rfl, w_yes (w_T rfl ?_)⟩
      walk_at "W"
      refine w_fld (ss _ _ f1) T.c_Floor T.nf_Floor__gauge (ff_gauge _ _) ?_
      walk_at "W"
      refine ⟨g, po, D, X1, X2, Y1, Y2, o, rfl, ss _ _ f5, hpo, G.wB, G.w1, G.w2, G.w3, G.w4, wo.mono (by decide), ?_⟩
      rw [inW_hasB pb pb' G]
      refine ⟨_, ed, sz_lt ?_, hD, ?_, fun b o eb => ?_⟩
      · rw [List.length_map, List.length_map, List.length_take]
        have : (sortC (corsT c i j)).length = 4 := (sortC_perm _).length_eq
        omega
      · rw [map_bl_take ho]
        exact upd_same
      · rw [upd_ne (ne_of_none eb hD)]
        exact ss b o eb
    · rintro D' H2 ⟨hD, ed, ss⟩
      rw [List.take_of_length_le (Nat.le_of_eq cs.len.symm)] at ed
      refine w_all (SqL.of ed) ?_
      rw [cs_all]
      exact q H2 (s1.trans ss)
-- needs W21
/-! the geometry of a floor that no direction bars -/
def XW (B X1 X2 p q : Int) (c : C4) : Int := wA B X1 c * q + wB' B X2 c * p
def YW (B Y1 Y2 p q : Int) (c : C4) : Int := wC B Y1 c * q + wE B Y2 c * p
theorem w_step {B X1 X2 Y1 Y2 p q : Int} {c : C4} {d : Nat} (hd : d < 8) : XW B X1 X2 p q (stepC c d 1) = gX (B * q) (B * p) (XW B X1 X2 p q c) d ∧ YW B Y1 Y2 p q (stepC c d 1) = gY (B * q) (B * p) (YW B Y1 Y2 p q c) d ∧
    (wB' B X2 (stepC c d 1) - wB' B X2 c).natAbs ≤ B.natAbs ∧ (wE B Y2 (stepC c d 1) - wE B Y2 c).natAbs ≤ B.natAbs := by
  have cs : d = 0 ∨ d = 1 ∨ d = 2 ∨ d = 3 ∨ d = 4 ∨ d = 5 ∨ d = 6 ∨ d = 7 := by omega
  have n0 : ∀ {x : Int}, x = 0 → x.natAbs ≤ B.natAbs := fun h => by rw [h]; exact Nat.zero_le _
  have n1 : ∀ {x : Int}, x = B → x.natAbs ≤ B.natAbs := fun h => by rw [h]; exact Nat.le_refl _
  have n2 : ∀ {x : Int}, x = -B → x.natAbs ≤ B.natAbs := fun h => by rw [h, Int.natAbs_neg]; exact Nat.le_refl _
  rcases cs with rfl | rfl | rfl | rfl | rfl | rfl | rfl | rfl
  · refine ⟨?_, rfl, n0 (by show (B * (c.d - c.b) - 2 * X2) - (B * (c.d - c.b) - 2 * X2) = 0; omega), n0 (by show (B * (c.b + c.d) - 2 * Y2) - (B * (c.b + c.d) - 2 * Y2) = 0; omega)⟩
    show 2 * (B * (c.a + 1) - X1) * q + (B * (c.d - c.b) - 2 * X2) * p = 2 * (B * c.a - X1) * q + (B * (c.d - c.b) - 2 * X2) * p + 2 * (B * q)
    grind
  · refine ⟨?_, ?_, n2 (by show (B * (c.d - (c.b + 1)) - 2 * X2) - (B * (c.d - c.b) - 2 * X2) = -B; grind), n1 (by show (B * (c.b + 1 + c.d) - 2 * Y2) - (B * (c.b + c.d) - 2 * Y2) = B; grind)⟩
    · show 2 * (B * c.a - X1) * q + (B * (c.d - (c.b + 1)) - 2 * X2) * p = 2 * (B * c.a - X1) * q + (B * (c.d - c.b) - 2 * X2) * p - B * p
      grind
    · show -2 * (B * c.c + Y1) * q + (B * (c.b + 1 + c.d) - 2 * Y2) * p = -2 * (B * c.c + Y1) * q + (B * (c.b + c.d) - 2 * Y2) * p + B * p
      grind
  · refine ⟨rfl, ?_, n0 (by show (B * (c.d - c.b) - 2 * X2) - (B * (c.d - c.b) - 2 * X2) = 0; omega), n0 (by show (B * (c.b + c.d) - 2 * Y2) - (B * (c.b + c.d) - 2 * Y2) = 0; omega)⟩
    show -2 * (B * (c.c + 1) + Y1) * q + (B * (c.b + c.d) - 2 * Y2) * p = -2 * (B * c.c + Y1) * q + (B * (c.b + c.d) - 2 * Y2) * p - 2 * (B * q)
    grind
  · refine ⟨?_, ?_, n1 (by show (B * (c.d + 1 - c.b) - 2 * X2) - (B * (c.d - c.b) - 2 * X2) = B; grind), n1 (by show (B * (c.b + (c.d + 1)) - 2 * Y2) - (B * (c.b + c.d) - 2 * Y2) = B; grind)⟩
    · show 2 * (B * c.a - X1) * q + (B * (c.d + 1 - c.b) - 2 * X2) * p = 2 * (B * c.a - X1) * q + (B * (c.d - c.b) - 2 * X2) * p + B * p
      grind
    · show -2 * (B * c.c + Y1) * q + (B * (c.b + (c.d + 1)) - 2 * Y2) * p = -2 * (B * c.c + Y1) * q + (B * (c.b + c.d) - 2 * Y2) * p + B * p
      grind
  · refine ⟨?_, rfl, n0 (by show (B * (c.d - c.b) - 2 * X2) - (B * (c.d - c.b) - 2 * X2) = 0; omega), n0 (by show (B * (c.b + c.d) - 2 * Y2) - (B * (c.b + c.d) - 2 * Y2) = 0; omega)⟩
    show 2 * (B * (c.a + -1) - X1) * q + (B * (c.d - c.b) - 2 * X2) * p = 2 * (B * c.a - X1) * q + (B * (c.d - c.b) - 2 * X2) * p - 2 * (B * q)
    grind
  · refine ⟨?_, ?_, n1 (by show (B * (c.d - (c.b + -1)) - 2 * X2) - (B * (c.d - c.b) - 2 * X2) = B; grind), n2 (by show (B * (c.b + -1 + c.d) - 2 * Y2) - (B * (c.b + c.d) - 2 * Y2) = -B; grind)⟩
    · show 2 * (B * c.a - X1) * q + (B * (c.d - (c.b + -1)) - 2 * X2) * p = 2 * (B * c.a - X1) * q + (B * (c.d - c.b) - 2 * X2) * p + B * p
      grind
    · show -2 * (B * c.c + Y1) * q + (B * (c.b + -1 + c.d) - 2 * Y2) * p = -2 * (B * c.c + Y1) * q + (B * (c.b + c.d) - 2 * Y2) * p - B * p
      grind
  · refine ⟨rfl, ?_, n0 (by show (B * (c.d - c.b) - 2 * X2) - (B * (c.d - c.b) - 2 * X2) = 0; omega), n0 (by show (B * (c.b + c.d) - 2 * Y2) - (B * (c.b + c.d) - 2 * Y2) = 0; omega)⟩
    show -2 * (B * (c.c + -1) + Y1) * q + (B * (c.b + c.d) - 2 * Y2) * p = -2 * (B * c.c + Y1) * q + (B * (c.b + c.d) - 2 * Y2) * p + 2 * (B * q)
    grind
  · refine ⟨?_, ?_, n2 (by show (B * (c.d + -1 - c.b) - 2 * X2) - (B * (c.d - c.b) - 2 * X2) = -B; grind), n2 (by show (B * (c.b + (c.d + -1)) - 2 * Y2) - (B * (c.b + c.d) - 2 * Y2) = -B; grind)⟩
    · show 2 * (B * c.a - X1) * q + (B * (c.d + -1 - c.b) - 2 * X2) * p = 2 * (B * c.a - X1) * q + (B * (c.d - c.b) - 2 * X2) * p - B * p
      grind
    · show -2 * (B * c.c + Y1) * q + (B * (c.b + (c.d + -1)) - 2 * Y2) * p = -2 * (B * c.c + Y1) * q + (B * (c.b + c.d) - 2 * Y2) * p - B * p
      grind
theorem inW_lin {B X1 X2 Y1 Y2 p q : Int} {c : C4} (P : Pell p q) (far : ((wB' B X2 c).natAbs : Int) + (wE B Y2 c).natAbs + 3 * B.natAbs < q) : inW B X1 X2 Y1 Y2 c = true ↔ WinL (XW B X1 X2 p q c) (YW B Y1 Y2 p q c) (B * q) (B * p) :=
  win_pell P (by show ((wB' B X2 c).natAbs : Int) + (wE B Y2 c).natAbs + B.natAbs < q; omega)
/-- barred by no direction -/
structure NoBar (t r b t' r' b' : Int) : Prop where
  x : ¬ EvB t r b
  y : ¬ EvB t' r' b'
  s : ¬ OdB (plus.t t r b t' r' b') (plus.r t r b t' r' b') (plus.b t r b t' r' b')
  d : ¬ OdB (minus.t t' r' b' t r b) (minus.r t' r' b' t r b) (minus.b t' r' b' t r b)
theorem noBar {t r b t' r' b' : Int} (h : barV t r b t' r' b' = .non) : NoBar t r b t' r' b' := by
  have n : ∀ {p : Prop} {k : Int} {v : V}, (if decB p = true then V.int k else v) = .non → ¬ p ∧ v = .non := fun {p k v} h => by
    by_cases c : p
    · rw [decB_t c, if_pos rfl] at h
      cases h
    · rw [decB_f c, if_neg (by decide)] at h
      exact ⟨c, h⟩
  unfold barV at h
  obtain ⟨h1, h⟩ := n h
  obtain ⟨h2, h⟩ := n h
  obtain ⟨h3, h⟩ := n h
  obtain ⟨h4, h⟩ := n h
  exact ⟨h3, h1, h2, h4⟩
theorem rim_ev {B X1 X2 t r b m n : Int} {s : Int} (hs : s = 1 ∨ s = -1) (pB : 0 < B) (e1 : X1 * b = t * B) (e2 : X2 * b = r * B) (h1 : 2 * X1 = (2 * m - s) * B) (h2 : 2 * X2 = n * B) : EvB t r b := by
  have k1 : 2 * t = (2 * m - s) * b := Int.eq_of_mul_eq_mul_right (a := B) (by omega) (by
    have : (2 * X1) * b = ((2 * m - s) * B) * b := by rw [h1]
    grind)
  have k2 : 2 * r = n * b := Int.eq_of_mul_eq_mul_right (a := B) (by omega) (by
    have : (2 * X2) * b = (n * B) * b := by rw [h2]
    grind)
  refine ⟨?_, n, k2⟩
  rcases hs with rfl | rfl
  · exact ⟨m - 1, by rw [k1]; congr 1; omega⟩
  · exact ⟨m, by rw [k1]; congr 1⟩
theorem rim_od {B Z1 Z2 t r b m n : Int} {s : Int} (hs : s = 1 ∨ s = -1) (pB : 0 < B) (e1 : Z1 * b = t * B) (e2 : Z2 * b = r * B) (h1 : Z1 = m * B) (h2 : 2 * Z2 = (2 * n - s) * B) : OdB t r b := by
  have k1 : t = m * b := Int.eq_of_mul_eq_mul_right (a := B) (by omega) (by
    have : Z1 * b = (m * B) * b := by rw [h1]
    grind)
  have k2 : 2 * r = (2 * n - s) * b := Int.eq_of_mul_eq_mul_right (a := B) (by omega) (by
    have : (2 * Z2) * b = ((2 * n - s) * B) * b := by rw [h2]
    grind)
  refine ⟨⟨m, k1⟩, ?_⟩
  rcases hs with rfl | rfl
  · exact ⟨n - 1, by rw [k2]; congr 1; omega⟩
  · exact ⟨n, by rw [k2]; congr 1⟩
theorem off_of {B X1 X2 Y1 Y2 t r b t' r' b' p q : Int} {c : C4} (G : Gau B X1 X2 Y1 Y2 t r b t' r' b') (N : NoBar t r b t' r' b') (P : Pell p q) (far : ((wB' B X2 c).natAbs : Int) + (wE B Y2 c).natAbs + 3 * B.natAbs < q) :
    Off (XW B X1 X2 p q c) (YW B Y1 Y2 p q c) (B * q) (B * p) := by
  have z : ∀ {x y : Int}, (y.natAbs : Int) < q → x * q + y * p = 0 → x = 0 ∧ y = 0 := fun h e => (sg2_pell P h).2.2 e
  have pB := G.pB
  have ey : ∀ {s : Int}, (s = 1 ∨ s = -1) → -2 * (B * c.c + Y1) = s * B → B * (c.b + c.d) - 2 * Y2 = s * B → False := fun {s} hs h1 h2 =>
    N.y (rim_ev (m := -c.c) (n := c.b + c.d - s) hs pB G.e3 G.e4 (by grind) (by grind))
  have ex : ∀ {s : Int}, (s = 1 ∨ s = -1) → 2 * (B * c.a - X1) = s * B → B * (c.d - c.b) - 2 * X2 = s * B → False := fun {s} hs h1 h2 =>
    N.x (rim_ev (m := c.a) (n := c.d - c.b - s) hs pB G.e1 G.e2 (by grind) (by grind))
  have e1 := G.e1
  have e2 := G.e2
  have e3 := G.e3
  have e4 := G.e4
  have es : ∀ {s : Int}, (s = 1 ∨ s = -1) → 2 * (B * c.a - X1) + -2 * (B * c.c + Y1) = s * (2 * B) → B * (c.d - c.b) - 2 * X2 + (B * (c.b + c.d) - 2 * Y2) = s * B → False := fun {s} hs h1 h2 =>
    N.s (rim_od (Z1 := X1 + Y1) (Z2 := X2 + Y2) (m := c.a - c.c - s) (n := c.d) hs pB (by show (X1 + Y1) * (b * b') = (t * b' + t' * b) * B; grind) (by show (X2 + Y2) * (b * b') = (r * b' + r' * b) * B; grind) (by grind) (by grind))
  have ed : ∀ {s : Int}, (s = 1 ∨ s = -1) → 2 * (B * c.a - X1) - -2 * (B * c.c + Y1) = s * (2 * B) → B * (c.d - c.b) - 2 * X2 - (B * (c.b + c.d) - 2 * Y2) = s * B → False := fun {s} hs h1 h2 => by
    have hs' : -s = 1 ∨ -s = -1 := by omega
    exact N.d (rim_od (Z1 := Y1 - X1) (Z2 := Y2 - X2) (m := s - c.a - c.c) (n := c.b) hs' pB (by show (Y1 - X1) * (b' * b) = (t' * b - t * b') * B; grind) (by show (Y2 - X2) * (b' * b) = (r' * b - r * b') * B; grind) (by grind) (by grind))
  have f1 : ((wB' B X2 c).natAbs : Int) + 2 * B.natAbs < q := by omega
  have f2 : ((wE B Y2 c).natAbs : Int) + 2 * B.natAbs < q := by omega
  unfold wB' at *
  unfold wE at *
  unfold XW YW wA wC wB' wE
  refine ⟨fun h => ?_, fun h => ?_, fun h => ?_, fun h => ?_, fun h => ?_, fun h => ?_, fun h => ?_, fun h => ?_⟩
  · obtain ⟨a1, a2⟩ := z (x := 2 * (B * c.a - X1) - B) (y := B * (c.d - c.b) - 2 * X2 - B) (by omega) (by grind)
    exact ex (s := 1) (.inl rfl) (by omega) (by omega)
  · obtain ⟨a1, a2⟩ := z (x := 2 * (B * c.a - X1) + B) (y := B * (c.d - c.b) - 2 * X2 + B) (by omega) (by grind)
    exact ex (s := -1) (.inr rfl) (by omega) (by omega)
  · obtain ⟨a1, a2⟩ := z (x := -2 * (B * c.c + Y1) - B) (y := B * (c.b + c.d) - 2 * Y2 - B) (by omega) (by grind)
    exact ey (s := 1) (.inl rfl) (by omega) (by omega)
  · obtain ⟨a1, a2⟩ := z (x := -2 * (B * c.c + Y1) + B) (y := B * (c.b + c.d) - 2 * Y2 + B) (by omega) (by grind)
    exact ey (s := -1) (.inr rfl) (by omega) (by omega)
  · obtain ⟨a1, a2⟩ := z (x := 2 * (B * c.a - X1) + -2 * (B * c.c + Y1) - 2 * B) (y := B * (c.d - c.b) - 2 * X2 + (B * (c.b + c.d) - 2 * Y2) - B) (by omega) (by grind)
    exact es (s := 1) (.inl rfl) (by omega) (by omega)
  · obtain ⟨a1, a2⟩ := z (x := 2 * (B * c.a - X1) + -2 * (B * c.c + Y1) + 2 * B) (y := B * (c.d - c.b) - 2 * X2 + (B * (c.b + c.d) - 2 * Y2) + B) (by omega) (by grind)
    exact es (s := -1) (.inr rfl) (by omega) (by omega)
  · obtain ⟨a1, a2⟩ := z (x := 2 * (B * c.a - X1) - -2 * (B * c.c + Y1) - 2 * B) (y := B * (c.d - c.b) - 2 * X2 - (B * (c.b + c.d) - 2 * Y2) - B) (by omega) (by grind)
    exact ed (s := 1) (.inl rfl) (by omega) (by omega)
  · obtain ⟨a1, a2⟩ := z (x := 2 * (B * c.a - X1) - -2 * (B * c.c + Y1) + 2 * B) (y := B * (c.d - c.b) - 2 * X2 - (B * (c.b + c.d) - 2 * Y2) + B) (by omega) (by grind)
    exact ed (s := -1) (.inr rfl) (by omega) (by omega)
/-- a floor about a corner, linear -/
structure Geo (f : C4 → Bool) (c : C4) (X Y U V : Int) : Prop where
  u : 0 < U
  lo : 7 * U < 5 * V
  hi : 2 * V ≤ 3 * U
  h0 : f c = true ↔ WinL X Y U V
  h1 : ∀ d : Nat, d < 8 → (f (stepC c d 1) = true ↔ WinL (gX U V X d) (gY U V Y d) U V)
  off : ∀ d : Nat, d < 8 → Off (gX U V X d) (gY U V Y d) U V
  h2 : ∀ d e : Nat, d < 8 → e < 8 → (f (stepC (stepC c d 1) e 1) = true ↔ WinL (gX U V (gX U V X d) e) (gY U V (gY U V Y d) e) U V)
def GeoF (f : C4 → Bool) : Prop := ∀ c, ∃ X Y U V, Geo f c X Y U V
theorem geoF {t r b t' r' b' D X1 X2 Y1 Y2 : Int} (pb : 0 < b) (pb' : 0 < b') (G : Gau D X1 X2 Y1 Y2 t r b t' r' b') (N : NoBar t r b t' r' b') : GeoF (hasB t r b t' r' b') := by
  intro c
  obtain ⟨p, q, P, far⟩ := pell_far ((wB' D X2 c).natAbs + (wE D Y2 c).natAbs + 7 * D.natAbs)
  have pD := G.pB
  have lin : ∀ {C : C4}, ((wB' D X2 C).natAbs : Int) + (wE D Y2 C).natAbs + 3 * D.natAbs < q → (hasB t r b t' r' b' C = true ↔ WinL (XW D X1 X2 p q C) (YW D Y1 Y2 p q C) (D * q) (D * p)) := fun {C} h => by
    rw [← inW_hasB pb pb' G]
    exact inW_lin P h
  refine ⟨XW D X1 X2 p q c, YW D Y1 Y2 p q c, D * q, D * p, Int.mul_pos pD P.q, ?_, ?_, lin (by omega), fun d hd => ?_, fun d hd => ?_, fun d e hd he => ?_⟩
  · have := Int.mul_lt_mul_of_pos_left P.lo pD
    grind
  · have := Int.mul_le_mul_of_nonneg_left P.hi (Int.le_of_lt pD)
    grind
  · obtain ⟨s1, s2, s3, s4⟩ := w_step (B := D) (X1 := X1) (X2 := X2) (Y1 := Y1) (Y2 := Y2) (p := p) (q := q) (c := c) hd
    rw [← s1, ← s2]
    exact lin (by omega)
  · obtain ⟨s1, s2, s3, s4⟩ := w_step (B := D) (X1 := X1) (X2 := X2) (Y1 := Y1) (Y2 := Y2) (p := p) (q := q) (c := c) hd
    rw [← s1, ← s2]
    exact off_of G N P (by omega)
  · obtain ⟨s1, s2, s3, s4⟩ := w_step (B := D) (X1 := X1) (X2 := X2) (Y1 := Y1) (Y2 := Y2) (p := p) (q := q) (c := c) hd
    obtain ⟨t1, t2, t3, t4⟩ := w_step (B := D) (X1 := X1) (X2 := X2) (Y1 := Y1) (Y2 := Y2) (p := p) (q := q) (c := stepC c d 1) he
    rw [← s1, ← s2, ← t1, ← t2]
    exact lin (by omega)
theorem n_of {b : Bool} : b = false ↔ ¬ b = true := by cases b <;> simp
/-- between two sides one behind the other a tile of the floor lies -/
theorem Geo.close {f : C4 → Bool} {c : C4} (G : GeoF f) {d g : Nat} (hd : d < 8) (g1 : 1 ≤ g) (g3 : g ≤ 3) (y : f c = true) (yd : f (stepC c d 1) = true) (ye : f (stepC c ((d + g) % 8 : Nat) 1) = true) (no : ∀ k, 0 < k → k < g → f (stepC c ((d + k) % 8 : Nat) 1) = false) :
    f (stepC (stepC c d 1) ((d + g) % 8 : Nat) 1) = true := by
  obtain ⟨X, Y, U, V, G⟩ := G c
  have m : ∀ k : Nat, (d + k) % 8 < 8 := fun k => Nat.mod_lt _ (by decide)
  have h0 := G.h0.mp y
  have h1 := (G.h1 d hd).mp yd
  have h2 := (G.h1 _ (m g)).mp ye
  refine (G.h2 d _ hd (m g)).mpr ?_
  have nn : ∀ k, 0 < k → k < g → ¬ WinL (gX U V X ((d + k) % 8)) (gY U V Y ((d + k) % 8)) U V := fun k k0 kg z => by
    have := no k k0 kg
    rw [(G.h1 _ (m k)).mpr z] at this
    cases this
  have cs : g = 1 ∨ g = 2 ∨ g = 3 := by omega
  rcases cs with rfl | rfl | rfl
  · exact clo_one G.u G.lo G.hi d hd h0 h1 h2
  · exact clo_two G.u G.lo G.hi d hd (nn 1 (by omega) (by omega)) (G.off _ (m 1)) h0 h1 h2
  · exact clo_three G.u G.lo G.hi d hd (nn 1 (by omega) (by omega)) (nn 2 (by omega) (by omega)) (G.off _ (m 1)) (G.off _ (m 2)) h0 h1 h2
/-- within a tile of the floor no side lies -/
theorem Geo.within {f : C4 → Bool} {c : C4} (G : GeoF f) {d g : Nat} (hd : d < 8) (g1 : 1 ≤ g) (g3 : g ≤ 3) (y : f c = true) (yd : f (stepC c d 1) = true) (ye : f (stepC c ((d + g) % 8 : Nat) 1) = true) (yy : f (stepC (stepC c d 1) ((d + g) % 8 : Nat) 1) = true) :
    ∀ k, 0 < k → k < g → f (stepC c ((d + k) % 8 : Nat) 1) = false := by
  obtain ⟨X, Y, U, V, G⟩ := G c
  have m : ∀ k : Nat, (d + k) % 8 < 8 := fun k => Nat.mod_lt _ (by decide)
  have h0 := G.h0.mp y
  have h1 := (G.h1 d hd).mp yd
  have h2 := (G.h1 _ (m g)).mp ye
  have h3 := (G.h2 d _ hd (m g)).mp yy
  intro k k0 kg
  refine n_of.mpr fun z => ?_
  have z := (G.h1 _ (m k)).mp z
  have cs : g = 1 ∨ g = 2 ∨ g = 3 := by omega
  rcases cs with rfl | rfl | rfl
  · omega
  · obtain rfl : k = 1 := by omega
    exact non_two G.u G.lo G.hi d hd ⟨h0, h1, h2, h3⟩ z
  · obtain ⟨z1, z2⟩ := non_three G.u G.lo G.hi d hd ⟨h0, h1, h2, h3⟩
    have : k = 1 ∨ k = 2 := by omega
    rcases this with rfl | rfl
    · exact z1 z
    · exact z2 z
-- needs W22
theorem ints4b {vs : List V} (h : vs.length = 4) {P : Int → Prop} (hp : ∀ v ∈ vs, ∃ z, v = V.int z ∧ P z) : ∃ C : C4, vs = [.int C.a, .int C.b, .int C.c, .int C.d] ∧ P C.a ∧ P C.b ∧ P C.c ∧ P C.d := by
  match vs, h with
  | [a, b, c, d], _ =>
    obtain ⟨x, rfl, px⟩ := hp a (by simp)
    obtain ⟨y, rfl, py⟩ := hp b (by simp)
    obtain ⟨z, rfl, pz⟩ := hp c (by simp)
    obtain ⟨u, rfl, pu⟩ := hp d (by simp)
    exact ⟨⟨x, y, z, u⟩, rfl, px, py, pz, pu⟩
def betC (c : C4) (d e : Int) : C4 := if 3 < e then stepC (if 3 < d then stepC c d 1 else c) e 1 else (if 3 < d then stepC c d 1 else c)
def lowD (d e : Int) : Int := min (d % 4) (e % 4)
def hiD (d e : Int) : Int := max (d % 4) (e % 4)
theorem lowhi {d e : Int} (ne : d % 4 ≠ e % 4) : 0 ≤ lowD d e ∧ lowD d e < hiD d e ∧ hiD d e ≤ 3 := by
  unfold lowD hiD
  omega
def shC (c x : C4) : C4 := ⟨c.a + x.a, c.b + x.b, c.c + x.c, c.d + x.d⟩
theorem step_sh {c x : C4} {d : Int} (h0 : 0 ≤ d) (h7 : d ≤ 7) : stepC (shC c x) d 1 = shC c (stepC x d 1) := by
  rcases dir_cases h0 h7 with rfl | rfl | rfl | rfl | rfl | rfl | rfl | rfl <;> simp [stepC, C4.plus, shC, Int.add_assoc]
theorem sh_zero {c : C4} : shC c ⟨0, 0, 0, 0⟩ = c := by simp [shC]
theorem bet_sh {c x : C4} {d e : Int} (d0 : 0 ≤ d) (d7 : d ≤ 7) (e0 : 0 ≤ e) (e7 : e ≤ 7) : betC (shC c x) d e = shC c (betC x d e) := by
  unfold betC
  split <;> split
  · rw [step_sh d0 d7, step_sh e0 e7]
  · rw [step_sh e0 e7]
  · rw [step_sh d0 d7]
  · rfl
theorem cors_sh {c x : C4} {i j : Int} (i0 : 0 ≤ i) (i7 : i ≤ 7) (j0 : 0 ≤ j) (j7 : j ≤ 7) : corsT (shC c x) i j = (corsT x i j).map (shC c) := by
  unfold corsT
  rw [step_sh i0 i7, step_sh j0 j7, step_sh j0 j7]
  rfl
def ends4 (c : C4) (d e : Int) : List C4 := [c, stepC c d 1, stepC c e 1, stepC (stepC c d 1) e 1]
theorem ends_sh {c x : C4} {d e : Int} (d0 : 0 ≤ d) (d7 : d ≤ 7) (e0 : 0 ≤ e) (e7 : e ≤ 7) : ends4 (shC c x) d e = (ends4 x d e).map (shC c) := by
  unfold ends4
  rw [step_sh d0 d7, step_sh e0 e7, step_sh e0 e7]
  rfl
theorem bet_zero : ∀ d e : Fin 8, ((d.val : Int) % 4 ≠ (e.val : Int) % 4) → (corsT (betC ⟨0, 0, 0, 0⟩ (d.val : Int) (e.val : Int)) (lowD d.val e.val) (hiD d.val e.val)).isPerm (ends4 ⟨0, 0, 0, 0⟩ (d.val : Int) (e.val : Int)) = true := by decide +kernel
theorem bet_cors {c : C4} {d e : Int} (d0 : 0 ≤ d) (d7 : d ≤ 7) (e0 : 0 ≤ e) (e7 : e ≤ 7) (ne : d % 4 ≠ e % 4) : (corsT (betC c d e) (lowD d e) (hiD d e)).Perm (ends4 c d e) := by
  have h := bet_zero ⟨d.toNat, by omega⟩ ⟨e.toNat, by omega⟩ (by show ((d.toNat : Nat) : Int) % 4 ≠ ((e.toNat : Nat) : Int) % 4; omega)
  rw [show ((⟨d.toNat, by omega⟩ : Fin 8).val : Int) = d from Int.toNat_of_nonneg d0, show ((⟨e.toNat, by omega⟩ : Fin 8).val : Int) = e from Int.toNat_of_nonneg e0] at h
  have p := (List.isPerm_iff.mp h).map (shC c)
  obtain ⟨l0, lh, h3⟩ := lowhi ne
  rw [← cors_sh l0 (by omega) (by omega) (by omega), ← ends_sh d0 d7 e0 e7, ← bet_sh d0 d7 e0 e7, sh_zero] at p
  exact p
theorem bet_bw {n : Nat} {c : C4} {d e : Int} (d0 : 0 ≤ d) (d7 : d ≤ 7) (e0 : 0 ≤ e) (e7 : e ≤ 7) (w : C4.bw n c) : C4.bw (n + 2) (betC c d e) := by
  unfold betC
  have k : C4.bw (n + 1) (if 3 < d then stepC c d 1 else c) := by
    split
    · exact step_bw d0 d7 w
    · exact w.mono (by omega)
  split
  · exact step_bw e0 e7 k
  · exact k.mono (by omega)
/-- the tile between two sides -/
def betT (c : C4) (d e : Int) : C4 × Int × Int := (betC c d e, lowD d e, hiD d e)
/-- what stands behind each, round -/
def rotL (L : List Int) : List Int := L.drop 1 ++ L.take 1
theorem rotL_len {L : List Int} : (rotL L).length = L.length := by
  unfold rotL
  rw [List.length_append, List.length_drop, List.length_take]
  omega
theorem rotL_get {L : List Int} {i : Nat} {e : Int} (h : (rotL L)[i]? = some e) : L.getD ((i + 1) % L.length) 0 = e := by
  have hi : i < L.length := by
    have := (List.getElem?_eq_some_iff.mp h).1
    rwa [rotL_len] at this
  unfold rotL at h
  rw [List.getD_eq_getElem?_getD]
  rcases Nat.lt_or_ge (i + 1) L.length with g | g
  · rw [Nat.mod_eq_of_lt g]
    rw [List.getElem?_append_left (by rw [List.length_drop]; omega), List.getElem?_drop, Nat.add_comm] at h
    rw [h]; rfl
  · obtain rfl : i = L.length - 1 := by omega
    rw [show L.length - 1 + 1 = L.length by omega, Nat.mod_self]
    rw [List.getElem?_append_right (by rw [List.length_drop]; omega), List.length_drop, Nat.sub_self, List.getElem?_take, if_pos (by omega)] at h
    rw [h]; rfl
def tilesF (f : C4 → Bool) (c : C4) : List (C4 × Int × Int) := List.zipWith (betT c) (sidesF f c 8) (rotL (sidesF f c 8))
/-- a row of tiles -/
def TsAt (H : Hp) : List V → List (C4 × Int × Int) → Prop
  | [], [] => True
  | v :: vs, t :: ts => TileAt H v t.1 t.2.1 t.2.2 ∧ TsAt H vs ts
  | _, _ => False
theorem TsAt.kpt {H H' : Hp} (k : Kpt H H') : ∀ {vs : List V} {ts : List (C4 × Int × Int)}, TsAt H vs ts → TsAt H' vs ts
  | [], [], h => h
  | _ :: _, _ :: _, h => ⟨h.1.kpt k, TsAt.kpt k h.2⟩
  | [], _ :: _, h => h.elim
  | _ :: _, [], h => h.elim
theorem TsAt.len {H : Hp} : ∀ {vs : List V} {ts : List (C4 × Int × Int)}, TsAt H vs ts → vs.length = ts.length
  | [], [], _ => rfl
  | _ :: _, _ :: _, h => congrArg (· + 1) (TsAt.len h.2)
  | [], _ :: _, h => h.elim
  | _ :: _, [], h => h.elim
theorem TsAt.add {H : Hp} {v : V} {t : C4 × Int × Int} (ht : TileAt H v t.1 t.2.1 t.2.2) : ∀ {vs : List V} {ts : List (C4 × Int × Int)}, TsAt H vs ts → TsAt H (vs ++ [v]) (ts ++ [t])
  | [], [], _ => ⟨ht, trivial⟩
  | _ :: _, _ :: _, h => ⟨h.1, TsAt.add ht h.2⟩
  | [], _ :: _, h => h.elim
  | _ :: _, [], h => h.elim
theorem TsAt.get {H : Hp} : ∀ {vs : List V} {ts : List (C4 × Int × Int)} {i : Nat} {v : V}, TsAt H vs ts → vs[i]? = some v → ∃ t, ts[i]? = some t ∧ TileAt H v t.1 t.2.1 t.2.2
  | v :: _, t :: _, 0, _, h, e => by
    cases e
    exact ⟨t, rfl, h.1⟩
  | _ :: _, _ :: _, i + 1, _, h, e => TsAt.get (i := i) h.2 e
  | [], [], _, _, _, e => by simp at e
  | [], _ :: _, _, _, h, _ => h.elim
  | _ :: _, [], _, _, h, _ => h.elim
/-! two sides one behind the other -/
def pick8 (a0 a1 a2 a3 a4 a5 a6 a7 : Bool) (n : Nat) : Bool := match n with | 0 => a0 | 1 => a1 | 2 => a2 | 3 => a3 | 4 => a4 | 5 => a5 | 6 => a6 | _ => a7
def row8 (a0 a1 a2 a3 a4 a5 a6 a7 : Bool) : List Int := (if a0 then [0] else []) ++ (if a1 then [1] else []) ++ (if a2 then [2] else []) ++ (if a3 then [3] else []) ++ (if a4 then [4] else []) ++ (if a5 then [5] else []) ++ (if a6 then [6] else []) ++ (if a7 then [7] else [])
def chkL (L : List Int) (a : Nat → Bool) : Bool :=
  (List.range 8).all fun i => decide (L.length ≤ i) || !decide (3 ≤ L.length) || !decide ((L.getD ((i + 1) % L.length) 0 - L.getD i 0) % 8 ≤ 3) || (decide (1 ≤ (L.getD ((i + 1) % L.length) 0 - L.getD i 0) % 8) &&
    (List.range 3).all fun k => decide (k = 0) || decide ((L.getD ((i + 1) % L.length) 0 - L.getD i 0) % 8 ≤ (k : Int)) || !(a (((L.getD i 0).toNat + k) % 8)))
theorem chkC_all : ∀ a0 a1 a2 a3 a4 a5 a6 a7 : Bool, chkL (row8 a0 a1 a2 a3 a4 a5 a6 a7) (pick8 a0 a1 a2 a3 a4 a5 a6 a7) = true := by decide +kernel
theorem sides_between {f : C4 → Bool} {c : C4} (g : Gap f c) {i : Nat} {d e : Int} (hd : (sidesF f c 8)[i]? = some d) (he : (sidesF f c 8).getD ((i + 1) % (sidesF f c 8).length) 0 = e) :
    ∃ n m : Nat, d = (n : Int) ∧ n < 8 ∧ 1 ≤ m ∧ m ≤ 3 ∧ e = ((n + m) % 8 : Nat) ∧ d % 4 ≠ e % 4 ∧ f (stepC c d 1) = true ∧ f (stepC c e 1) = true ∧ ∀ k, 0 < k → k < m → f (stepC c ((n + k) % 8 : Nat) 1) = false := by
  have hi : i < (sidesF f c 8).length := (List.getElem?_eq_some_iff.mp hd).1
  have l8 := sidesF_len (f := f) (c := c) (n := 8)
  obtain ⟨l3, nx⟩ := sidesF_next g
  obtain ⟨nx1, nx2⟩ := nx i hi
  have gd : (sidesF f c 8).getD i 0 = d := by rw [List.getD_eq_getElem?_getD, hd]; rfl
  obtain ⟨n, hn, rfl, yd⟩ := sidesF_mem.mp (List.mem_of_getElem? hd)
  have me : e ∈ sidesF f c 8 := by
    rw [← he]
    rw [List.getD_eq_getElem?_getD, List.getElem?_eq_getElem (Nat.mod_lt _ (by omega))]
    exact List.getElem_mem _
  obtain ⟨n', hn', en, ye⟩ := sidesF_mem.mp me
  have k := chkC_all (f (stepC c 0 1)) (f (stepC c 1 1)) (f (stepC c 2 1)) (f (stepC c 3 1)) (f (stepC c 4 1)) (f (stepC c 5 1)) (f (stepC c 6 1)) (f (stepC c 7 1))
  have eqL : sidesF f c 8 = row8 (f (stepC c 0 1)) (f (stepC c 1 1)) (f (stepC c 2 1)) (f (stepC c 3 1)) (f (stepC c 4 1)) (f (stepC c 5 1)) (f (stepC c 6 1)) (f (stepC c 7 1)) := sidesF_eq
  rw [← eqL] at k
  unfold chkL at k
  rw [List.all_eq_true] at k
  have k := k i (List.mem_range.mpr (by omega))
  rw [gd, he] at nx1 nx2
  rw [gd, he] at k
  simp only [Bool.or_eq_true, Bool.not_eq_true', decide_eq_true_eq, decide_eq_false_iff_not, Bool.and_eq_true, List.all_eq_true, List.mem_range] at k
  rcases k with ((k | k) | k) | ⟨k1, k2⟩
  · omega
  · omega
  · exact absurd nx2 k
  · refine ⟨n, ((e - n) % 8).toNat, rfl, hn, by omega, by omega, ?_, nx1, yd, ye, fun j j0 jm => ?_⟩
    · subst en
      omega
    · rcases k2 j (by omega) with (h | h) | h
      · omega
      · omega
      · have cs : ∀ z : Nat, z < 8 → pick8 (f (stepC c 0 1)) (f (stepC c 1 1)) (f (stepC c 2 1)) (f (stepC c 3 1)) (f (stepC c 4 1)) (f (stepC c 5 1)) (f (stepC c 6 1)) (f (stepC c 7 1)) z = f (stepC c (z : Int) 1) := fun z hz => by
          have : z = 0 ∨ z = 1 ∨ z = 2 ∨ z = 3 ∨ z = 4 ∨ z = 5 ∨ z = 6 ∨ z = 7 := by omega
          rcases this with rfl | rfl | rfl | rfl | rfl | rfl | rfl | rfl <;> rfl
        rw [← cs _ (Nat.mod_lt _ (by decide))]
        exact h
/-- the tiles about a corner are tiles of the floor -/
theorem tile_there {f : C4 → Bool} {c : C4} (G : GeoF f) (g : Gap f c) (y : f c = true) {i : Nat} {d e : Int} (hd : (sidesF f c 8)[i]? = some d) (he : (sidesF f c 8).getD ((i + 1) % (sidesF f c 8).length) 0 = e) :
    0 ≤ d ∧ d ≤ 7 ∧ 0 ≤ e ∧ e ≤ 7 ∧ d % 4 ≠ e % 4 ∧ (corsT (betC c d e) (lowD d e) (hiD d e)).all f = true := by
  obtain ⟨n, m, rfl, hn, m1, m3, rfl, ne, yd, ye, no⟩ := sides_between g hd he
  have cl := Geo.close G hn m1 m3 y yd ye no
  refine ⟨by omega, by omega, by omega, by omega, ne, ?_⟩
  rw [(bet_cors (by omega) (by omega) (by omega) (by omega) ne).all_eq]
  simp only [ends4, List.all_cons, List.all_nil, Bool.and_true, y, yd, ye, cl]
theorem tilesF_get {f : C4 → Bool} {c : C4} {i : Nat} {t : C4 × Int × Int} (h : (tilesF f c)[i]? = some t) : ∃ d e, (sidesF f c 8)[i]? = some d ∧ (sidesF f c 8).getD ((i + 1) % (sidesF f c 8).length) 0 = e ∧ t = betT c d e := by
  unfold tilesF at h
  rw [List.getElem?_zipWith] at h
  cases hd : (sidesF f c 8)[i]? with
  | none => rw [hd] at h; simp at h
  | some d =>
    rw [hd] at h
    cases he : (rotL (sidesF f c 8))[i]? with
    | none => rw [he] at h; simp at h
    | some e =>
      rw [he] at h
      exact ⟨d, e, rfl, rotL_get he, (Option.some.inj h).symm⟩
theorem tilesF_len {f : C4 → Bool} {c : C4} : (tilesF f c).length = (sidesF f c 8).length := by
  unfold tilesF
  rw [List.length_zipWith, rotL_len, Nat.min_self]
theorem k_lst2m {K : PySem.W.Frag} {T : Addr} {x y : V} {σ σ' : L2.St} {H : Hp} {i j : Nat} {N : L2.St → Hp → Prop} {n : Nat} (hT : H T = some (.lst [x, y])) (hn : n = 2) (hσ : (σ.set i (some x)).set j (some y) = σ') (q : N σ' H) :
    gLst K n (gCons (gName i) (gCons (gName j) gNil)) (.ref T) σ H N := by
  subst hσ
  exact ⟨T, [x, y], rfl, SqL.of hT, by rw [hn]; rfl, x, _, rfl, y, [], rfl, rfl, q⟩
theorem sort2 {x y : Int} {ns : List Int} (pm : ns.Perm [x, y]) (pw : ns.Pairwise (· ≤ ·)) : ns = [min x y, max x y] := by
  have ln := pm.length_eq
  obtain ⟨u, v, rfl⟩ : ∃ u v, ns = [u, v] := by
    match ns, ln with
    | [a, b], _ => exact ⟨a, b, rfl⟩
  have m1 : x ∈ [u, v] := pm.mem_iff.mpr (by simp)
  have m2 : y ∈ [u, v] := pm.mem_iff.mpr (by simp)
  have m3 : u ∈ [x, y] := pm.mem_iff.mp (by simp)
  have m4 : v ∈ [x, y] := pm.mem_iff.mp (by simp)
  have le : u ≤ v := by simpa using pw
  simp only [List.mem_cons, List.not_mem_nil, or_false] at m1 m2 m3 m4
  have e1 : u = min x y := by omega
  have e2 : v = max x y := by omega
  rw [e1, e2]
theorem w_catL {H : Hp} {Q : VK} {a b : Addr} {xs ys : List V} (h1 : H a = some (.lst xs)) (h2 : H b = some (.lst ys)) (hl : xs.length + ys.length ≤ 1000) (q : ∀ p H2, H p = none → Same H H2 → H2 p = some (.lst (xs ++ ys)) → Q (.ref p) H2) : rCat (.ref a) (.ref b) H Q :=
  ⟨a, b, xs, ys, rfl, rfl, h1, h2, Nat.le_trans hl (by decide), fun p hp => q p _ hp (Same.new hp) upd_same⟩
abbrev s__law_ends : Stmt := top 63
theorem sc__law_ends : FnScope ["tile", "first"] ["tile"] (defScope s__law_ends) := ⟨rfl, rfl, rfl, by decide +kernel, rfl, by decide +kernel, by decide +kernel⟩

def sp__law_ends (Z : Zs) : Sp := fun vs H Q E =>
  ∃ v c i j, vs = [v] ∧ TileAt H v c i j ∧ 0 ≤ i ∧ i ≤ 3 ∧ 0 ≤ j ∧ j ≤ 3 ∧ ∀ u ws H', H u = none → Same H H' → H' u = some (.lst ws) → CsAt H' ws (corsT c i j) → Q (.ref u) H'
theorem ok__law_ends (T : Txt Z mg) (h__law_step : Has P w Z.K mg base "_law_step" 1 ["corner", "way", "many"] (sp__law_step Z)) (D : AtF Z.K mg "_law_ends" "_law_ends" s__law_ends ["tile"]) : Has P w Z.K mg base "_law_ends" 2 ["tile"] (sp__law_ends Z) := by
  refine D.ok sc__law_ends (fun vs H Q E h => ?_) (fun cdv A outer s H vs Q E hr h => ?_)
  · obtain ⟨v, c, i, j, rfl, _⟩ := h
    rfl
  · refine ⟨_, (pss_cons (ps_set (i := 1) sc__law_ends.nd rfl (Or.inl rfl) (pe_h (E := ED E) h__law_step hr (paW (takes_of rfl rfl rfl rfl)) (pa_cons (pe_ix ix_seq (pv 0) pe_int (fun _ _ => rfl)) (pa_cons (pe_ix ix_seq (pv 0) pe_int (fun _ _ => rfl)) (pa_cons pe_int pa_nil)))))
      (pss_one (ps_ret (pe_lst (pa_cons (pe_ix ix_seq (pv 0) pe_int (fun _ _ => rfl)) (pa_cons (pv 1) (pa_cons (pe_h (E := ED E) h__law_step hr (paW (takes_of rfl rfl rfl rfl)) (pa_cons (pe_ix ix_seq (pv 0) pe_int (fun _ _ => rfl)) (pa_cons (pe_ix ix_seq (pv 0) pe_int (fun _ _ => rfl)) (pa_cons pe_int pa_nil)))) (pa_cons (pe_h (E := ED E) h__law_step hr (paW (takes_of rfl rfl rfl rfl)) (pa_cons (pv 1) (pa_cons (pe_ix ix_seq (pv 0) pe_int (fun _ _ => rfl)) (pa_cons pe_int pa_nil)))) pa_nil)))))))), ?_⟩
    try simp only [cxOf]
    obtain ⟨v, c, i, j, rfl, ⟨p, x, rfl, hp, pc, rfl, hc⟩, i0, i3, j0, j3, q⟩ := h
    walk_at "W"
    refine ⟨pc, c, i, 1, rfl, hc, by omega, by omega, fun u1 H1 hu1 s1 e1 => ?_⟩
    have hp1 := s1 _ _ hp
    walk_at "W"
    refine ⟨pc, c, j, 1, rfl, s1 _ _ hc, by omega, by omega, fun u2 H2 hu2 s2 e2 => ?_⟩
    have hp2 := s2 _ _ hp1
    walk_at "W"
    refine ⟨u1, _, j, 1, rfl, s2 _ _ e1, by omega, by omega, fun u3 H3 hu3 s3 e3 => ?_⟩
    walk_at "W"
    refine k_lst rfl fun l H4 hl s4 e4 => ?_
    exact q l _ H4 ((s1.trans (s2.trans s3)).free hl) (s1.trans (s2.trans (s3.trans s4))) e4 ⟨⟨pc, rfl, s4 _ _ (s3 _ _ (s2 _ _ (s1 _ _ hc)))⟩, ⟨u1, rfl, s4 _ _ (s3 _ _ (s2 _ _ e1))⟩, ⟨u2, rfl, s4 _ _ (s3 _ _ e2)⟩, ⟨u3, rfl, s4 _ _ e3⟩, trivial⟩
abbrev s__law_has_tile : Stmt := top 64
theorem sc__law_has_tile : FnScope ["shift", "tile", "corner"] ["shift", "tile"] (defScope s__law_has_tile) := ⟨rfl, rfl, rfl, by decide +kernel, rfl, by decide +kernel, by decide +kernel⟩

def sp__law_has_tile (Z : Zs) : Sp := fun vs H Q E =>
  ∃ w v c i j T R B T' R' B', vs = [.ref w, v] ∧ ShAt H w T R B T' R' B' ∧ ShB T R B T' R' B' ∧ TileAt H v c i j ∧ 0 ≤ i ∧ i ≤ 3 ∧ 0 ≤ j ∧ j ≤ 3 ∧ C4.bw 128 c ∧ ∀ H', Same H H' → Q (.bl ((corsT c i j).all (hasB T R B T' R' B'))) H'
theorem ok__law_has_tile (T : Txt Z mg) (h__law_ends : Has P w Z.K mg base "_law_ends" 2 ["tile"] (sp__law_ends Z)) (h__law_has : Has P w Z.K mg base "_law_has" 4 ["shift", "corner"] (sp__law_has Z)) (D : AtF Z.K mg "_law_has_tile" "_law_has_tile" s__law_has_tile ["shift", "tile"]) : Has P w Z.K mg base "_law_has_tile" 5 ["shift", "tile"] (sp__law_has_tile Z) := by
  refine D.ok sc__law_has_tile (fun vs H Q E h => ?_) (fun cdv A outer s H vs Q E hr h => ?_)
  · obtain ⟨w, v, c, i, j, T, R, B, T', R', B', rfl, _⟩ := h
    rfl
  · refine ⟨_, (pss_cons (ps_for (passes_of rfl) rfl (pi_list (pe_h (E := ED E) h__law_ends hr (paW (takes_of rfl rfl rfl rfl)) (pa_cons (pv 1) pa_nil))) (pg_name (i := 2) sc__law_has_tile.nd rfl (Or.inl rfl)) (pss_one (ps_if (pt_not (pt_val (pe_h (E := ED E) h__law_has hr (paW (takes_of rfl rfl rfl rfl)) (pa_cons (pv 0) (pa_cons (pv 2) pa_nil))))) (pss_one (ps_ret pe_bl)) pss_nil)))
      (pss_one (ps_ret pe_bl))), ?_⟩
    try simp only [cxOf]
    obtain ⟨w, v, c, i, j, T0, R0, B0, T1, R1, B1, rfl, shp, sb, ht, i0, i3, j0, j3, wc, q⟩ := h
    walk_at "W"
    refine ⟨v, c, i, j, rfl, ht, i0, i3, j0, j3, fun u ws H1 hu s1 e1 cs => ?_⟩
    have shp := shp.kps (Kps.same s1)
    refine k_forL (xs := ws) (fun k σ' H' => Same H1 H' ∧ (∃ x2, σ' = [some (.ref w), some v, x2]) ∧ ((corsT c i j).take k).all (hasB T0 R0 B0 T1 R1 B1) = true) (SqL.of e1) ⟨Same.refl _, ⟨none, rfl⟩, rfl⟩ (fun k σ' H' h => SqL.of (h.1 _ _ e1)) ?_ ?_
    · rintro k x σ' H2 hx ⟨s2, ⟨x2, rfl⟩, ok⟩
      obtain ⟨o, ho, co⟩ := (cs.kpt (Kpt.same s2)).get hx
      obtain ⟨po, rfl, hpo⟩ := co
      have wo : C4.bw 130 o := corsT_bw i0 (by omega) j0 (by omega) wc (List.mem_of_getElem? ho)
      walk_at "W"
      refine k_lhas (shp.kps (Kps.same s2)) sb hpo wo fun H3 s3 => ?_
      cases e : hasB T0 R0 B0 T1 R1 B1 o
      · walk_at "W"
        have : (corsT c i j).all (hasB T0 R0 B0 T1 R1 B1) = false := by
          rw [Bool.eq_false_iff]
          intro z
          rw [List.all_eq_true] at z
          have := z o (List.mem_of_getElem? ho)
          rw [e] at this
          cases this
        have q1 := q H3 (s1.trans (s2.trans s3))
        rw [this] at q1
        exact q1
      · walk_at "W"
        refine ⟨s2.trans s3, ⟨_, rfl⟩, ?_⟩
        rw [List.take_add_one, ho, List.all_append, ok]
        simp [e]
    · rintro σ' H2 ⟨s2, ⟨x2, rfl⟩, ok⟩
      rw [List.take_of_length_le (Nat.le_of_eq cs.len.symm)] at ok
      walk_at "W"
      have q1 := q H2 (s1.trans s2)
      rw [ok] at q1
      exact q1
abbrev s__law_tile_between : Stmt := top 65
theorem sc__law_tile_between : FnScope ["corner", "one", "other", "way", "ways"] ["corner", "one", "other"] (defScope s__law_tile_between) := ⟨rfl, rfl, rfl, by decide +kernel, rfl, by decide +kernel, by decide +kernel⟩

def sp__law_tile_between (Z : Zs) : Sp := fun vs H Q E =>
  ∃ p c d e, vs = [.ref p, .int d, .int e] ∧ H p = some (.tup [.int (c : C4).a, .int c.b, .int c.c, .int c.d]) ∧ 0 ≤ d ∧ d ≤ 7 ∧ 0 ≤ e ∧ e ≤ 7 ∧ ∀ t H', Same H H' → TileAt H' (.ref t) (betC c d e) (lowD d e) (hiD d e) → Q (.ref t) H'
theorem ok__law_tile_between (T : Txt Z mg) (h__law_step : Has P w Z.K mg base "_law_step" 1 ["corner", "way", "many"] (sp__law_step Z)) (D : AtF Z.K mg "_law_tile_between" "_law_tile_between" s__law_tile_between ["corner", "one", "other"]) : Has P w Z.K mg base "_law_tile_between" 2 ["corner", "one", "other"] (sp__law_tile_between Z) := by
  refine D.ok sc__law_tile_between (fun vs H Q E h => ?_) (fun cdv A outer s H vs Q E hr h => ?_)
  · obtain ⟨p, c, d, e, rfl, _⟩ := h
    rfl
  · refine ⟨_, (pss_cons (ps_for (passes_of rfl) rfl (pi_list (pe_lst (pa_cons (pv 1) (pa_cons (pv 2) pa_nil)))) (pg_name (i := 3) sc__law_tile_between.nd rfl (Or.inl rfl)) (pss_one (ps_if (pt_cmpR op_ge (pv 3) pe_int (nomark _)) (pss_one (ps_set (i := 0) sc__law_tile_between.nd rfl (Or.inl rfl) (pe_h (E := ED E) h__law_step hr (paW (takes_of rfl rfl rfl rfl)) (pa_cons (pv 0) (pa_cons (pv 3) (pa_cons pe_int pa_nil)))))) pss_nil)))
      (pss_cons (ps_set (i := 4) sc__law_tile_between.nd rfl (Or.inl rfl) (pe_callB cr_sorted rfl T.n_sorted (by decide +kernel) (pa_cons (pe_lst (pa_cons (pe_op op_mod (pe_callTy cn_int rfl T.n_int (by decide +kernel) (pa_cons (pv 1) pa_nil)) pe_int) (pa_cons (pe_op op_mod (pe_callTy cn_int rfl T.n_int (by decide +kernel) (pa_cons (pv 2) pa_nil)) pe_int) pa_nil))) pa_nil)))
      (pss_one (ps_ret (pe_tup (pa_cons (pv 0) (pa_cons (pe_ix ix_seq (pv 4) pe_int (fun _ _ => rfl)) (pa_cons (pe_ix ix_seq (pv 4) pe_int (fun _ _ => rfl)) pa_nil)))))))), ?_⟩
    try simp only [cxOf]
    obtain ⟨p, c, d, e, rfl, hp, d0, d7, e0, e7, q⟩ := h
    walk_at "W"
    refine k_lst rfl fun l H1 hl s1 e1 => ?_
    refine k_forL (xs := [.int d, .int e]) (fun i σ' H' => Same H1 H' ∧ ∃ (u : Addr) (C : C4) (x : Option V), σ' = [some (.ref u), some (.int d), some (.int e), x, none] ∧ H' u = some (.tup [.int C.a, .int C.b, .int C.c, .int C.d]) ∧ C = (if i = 0 then c else if i = 1 then (if 3 < d then stepC c d 1 else c) else betC c d e)) (SqL.of e1) ⟨Same.refl _, p, c, none, rfl, s1 _ _ hp, rfl⟩ (fun i σ H h => SqL.of (h.1 _ _ e1)) ?_ ?_
    · rintro i x σ' H2 hx ⟨s2, u, C, x4, rfl, eu, eC⟩
      rcases i with _ | _ | i
      · cases hx
        subst eC
        walk_at "W"
        refine w_ite (fun h4 => ?_) (fun h4 => ?_)
        · walk_at "W"
          refine ⟨u, _, d, _, rfl, eu, d0, d7, fun u2 H3 hu2 s3 e3 => ?_⟩
          walk_at "W"
          exact ⟨s2.trans s3, u2, _, _, rfl, e3, by rw [if_neg (by decide), if_pos rfl, if_pos (show 3 < d by omega)]⟩
        · walk_at "W"
          exact ⟨s2, u, _, _, rfl, eu, by rw [if_neg (show ¬ (0 + 1 = 0) by decide), if_pos rfl, if_neg (show ¬ 3 < d by omega)]⟩
      · cases hx
        subst eC
        walk_at "W"
        refine w_ite (fun h4 => ?_) (fun h4 => ?_)
        · walk_at "W"
          refine ⟨u, _, e, _, rfl, eu, e0, e7, fun u2 H3 hu2 s3 e3 => ?_⟩
          walk_at "W"
          refine ⟨s2.trans s3, u2, _, _, rfl, e3, ?_⟩
          show _ = betC c d e
          unfold betC
          rw [if_pos (show 3 < e by omega)]
          rfl
        · walk_at "W"
          refine ⟨s2, u, _, _, rfl, eu, ?_⟩
          show _ = betC c d e
          unfold betC
          rw [if_neg (show ¬ 3 < e by omega)]
          rfl
      · simp at hx
    · rintro σ' H2 ⟨s2, u, C, x, rfl, eu, eC⟩
      have eC : C = betC c d e := eC
      subst eC
      walk_at "W"
      refine k_lst rfl fun l2 H3 hl2 s3 e3 => ?_
      walk_at "W"
      refine ⟨l2, [d % 4, e % 4], rfl, SqL.of e3, by simp, fun ns l3 pm pw hl3 => ?_⟩
      have s4 := Same.new (o := .lst (ns.map V.int)) hl3
      have e4 : (upd H3 l3 (.lst (ns.map V.int))) l3 = some (.lst (ns.map V.int)) := upd_same
      generalize upd H3 l3 (.lst (ns.map V.int)) = H4 at *
      rw [sort2 pm pw] at e4
      have e4 : H4 l3 = some (.lst [.int (lowD d e), .int (hiD d e)]) := e4
      walk_at "W"
      refine k_tup rfl fun t H5 ht s5 e5 => ?_
      have S := s3.trans (s4.trans s5)
      exact q t H5 (s1.trans (s2.trans S)) ⟨t, _, rfl, e5, u, rfl, S _ _ eu⟩
abbrev s__law_tiles_at : Stmt := top 66
theorem sc__law_tiles_at : FnScope ["shift", "corner", "ways", "one", "other"] ["shift", "corner"] (defScope s__law_tiles_at) := ⟨rfl, rfl, rfl, by decide +kernel, rfl, by decide +kernel, by decide +kernel⟩

def sp__law_tiles_at (Z : Zs) : Sp := fun vs H Q E =>
  ∃ w p c T R B T' R' B', vs = [.ref w, .ref p] ∧ ShAt H w T R B T' R' B' ∧ ShB T R B T' R' B' ∧ H p = some (.tup [.int (c : C4).a, .int c.b, .int c.c, .int c.d]) ∧ C4.bw 129 c ∧ ∀ u ws H', H u = none → Same H H' → H' u = some (.lst ws) → TsAt H' ws (tilesF (hasB T R B T' R' B') c) → Q (.ref u) H'
theorem ok__law_tiles_at (T : Txt Z mg) (h__law_tile_between : Has P w Z.K mg base "_law_tile_between" 2 ["corner", "one", "other"] (sp__law_tile_between Z)) (h__law_sides : Has P w Z.K mg base "_law_sides" 5 ["shift", "corner"] (sp__law_sides Z)) (D : AtF Z.K mg "_law_tiles_at" "_law_tiles_at" s__law_tiles_at ["shift", "corner"]) : Has P w Z.K mg base "_law_tiles_at" 6 ["shift", "corner"] (sp__law_tiles_at Z) := by
  refine D.ok sc__law_tiles_at (fun vs H Q E h => ?_) (fun cdv A outer s H vs Q E hr h => ?_)
  · obtain ⟨w, p, c, T, R, B, T', R', B', rfl, _⟩ := h
    rfl
  · refine ⟨_, (pss_cons (ps_set (i := 2) sc__law_tiles_at.nd rfl (Or.inl rfl) (pe_h (E := ED E) h__law_sides hr (paW (takes_of rfl rfl rfl rfl)) (pa_cons (pv 0) (pa_cons (pv 1) pa_nil))))
      (pss_one (ps_ret (pe_lc (own := [("one", 3), ("other", 4)]) (g := gTup Z.K 2 (gCons (gName 3) (gCons (gName 4) gNil))) rfl sc__law_tiles_at.nd (RZ.pi_zipA rfl T.n_zip (pa_cons (pv 2) (pa_cons (pe_op op_cat (pe_slice sl_list (pv 2) (po_some pe_int) po_none) (pe_slice sl_list (pv 2) po_none (po_some pe_int))) pa_nil))) (blkOk_by (N := ["shift", "corner", "ways", "one", "other"]) (sc := defScope s__law_tiles_at) (by decide +kernel)) (fun _ _ _ _ _ => pg_tup rfl (pgs_cons (pg_name (i := 3) sc__law_tiles_at.nd rfl (Or.inl rfl)) (pgs_cons (pg_name (i := 4) sc__law_tiles_at.nd rfl (Or.inl rfl)) pgs_nil))) (fun _ _ _ _ _ => pts_nil) (fun _ _ _ _ _ => (pe_h (E := fun _ => E0) h__law_tile_between hr pa0 (pa_cons (pv 1) (pa_cons (pv 3) (pa_cons (pv 4) pa_nil))))))))), ?_⟩
    try simp only [cxOf]
    obtain ⟨w, p, c, T0, R0, B0, T1, R1, B1, rfl, shp, sb, hp, wc, q⟩ := h
    walk_at "W"
    refine ⟨w, p, c, T0, R0, B0, T1, R1, B1, rfl, shp, sb, hp, wc, fun l H1 hl s1 e1 => ?_⟩
    walk_at "W"
    refine k_slL (SqL.of e1) fun t1 H2 ht1 s2 f2 => ?_
    walk_at "W"
    refine k_slL (SqL.of (s2 _ _ e1)) fun t2 H3 ht2 s3 f3 => ?_
    have f2 := s3 _ _ f2
    rw [show (some (1 : Int)) = some ((1 : Nat) : Int) from rfl, cutV_tail, ← List.map_drop] at f2
    rw [show (some (1 : Int)) = some ((1 : Nat) : Int) from rfl, cutV_head, ← List.map_take] at f3
    have l8 := sidesF_len (f := hasB T0 R0 B0 T1 R1 B1) (c := c) (n := 8)
    refine w_catL f2 f3 (by simp only [List.length_map, List.length_drop, List.length_take]; omega) fun t3 H4 ht3 s4 f4 => ?_
    rw [← List.map_append] at f4
    have f4 : H4 t3 = some (.lst ((rotL (sidesF (hasB T0 R0 B0 T1 R1 B1) c 8)).map V.int)) := f4
    have e4 := s4 _ _ (s3 _ _ (s2 _ _ e1))
    have S4 := s1.trans (s2.trans (s3.trans s4))
    walk_at "W"
    refine k_lcZL (xs := (sidesF (hasB T0 R0 B0 T1 R1 B1) c 8).map V.int) (ys := (rotL (sidesF (hasB T0 R0 B0 T1 R1 B1) c 8)).map V.int) (fun i D H' => H4 D = none ∧ (∃ vs, H' D = some (.lst vs) ∧ TsAt H' vs ((tilesF (hasB T0 R0 B0 T1 R1 B1) c).take i)) ∧ Same H4 H') e4 f4 (by rw [List.length_map, List.length_map, rotL_len]) (fun D hD => ⟨hD, ⟨[], upd_same, by rw [List.take_zero]; trivial⟩, Same.new hD⟩) (fun i D H' h => ⟨h.2.2 _ _ e4, h.2.2 _ _ f4⟩) ?_ ?_
    · rintro i x y D H' TT H5 hx hy ⟨hD, ⟨vs, ev, ts⟩, ss⟩ hT s5 eT
      rw [List.getElem?_map] at hx hy
      obtain ⟨d, hd, rfl⟩ := Option.map_eq_some_iff.mp hx
      obtain ⟨e, he, rfl⟩ := Option.map_eq_some_iff.mp hy
      obtain ⟨kd, hkd, ed, yd⟩ := sidesF_mem.mp (List.mem_of_getElem? hd)
      have me : e ∈ sidesF (hasB T0 R0 B0 T1 R1 B1) c 8 := by
        have := List.mem_of_getElem? he
        unfold rotL at this
        rcases List.mem_append.mp this with m | m
        · exact List.mem_of_mem_drop m
        · exact List.mem_of_mem_take m
      obtain ⟨ke, hke, ee, ye⟩ := sidesF_mem.mp me
      have hz : (tilesF (hasB T0 R0 B0 T1 R1 B1) c)[i]? = some (betT c d e) := by
        unfold tilesF
        rw [List.getElem?_zipWith, hd, he]
      refine k_tupl2 eT rfl rfl ⟨rfl, w_yes (w_T rfl ?_)⟩
      walk_at "W"
      refine ⟨p, c, d, e, rfl, s5 _ _ (ss _ _ (S4 _ _ hp)), by omega, by omega, by omega, by omega, fun t H6 s6 ht => ?_⟩
      have S6 := s5.trans s6
      have nt : t ≠ D := fun z => by
        obtain ⟨pt, xt, e1, e2, _⟩ := ht
        cases e1
        rw [z, S6 _ _ ev] at e2
        cases e2
      refine ⟨vs, S6 _ _ ev, sz_lt (by rw [ts.len, List.length_take, tilesF_len]; omega), hD, ⟨vs ++ [.ref t], upd_same, ?_⟩, fun b o eb => ?_⟩
      · rw [List.take_add_one, hz]
        have KD : Kpt H6 (upd H6 D (.lst (vs ++ [.ref t]))) := Kpt.updL (S6 _ _ ev)
        exact (ts.kpt ((Kpt.same S6).trans KD)).add (t := betT c d e) (ht.kpt KD)
      · rw [upd_ne (ne_of_none eb hD)]
        exact S6 _ _ (ss b o eb)
    · rintro D H5 ⟨hD, ⟨vs, ev, ts⟩, ss⟩
      rw [List.take_of_length_le (by rw [tilesF_len, List.length_map]; omega)] at ts
      exact q D vs H5 (S4.free hD) (S4.trans ss) ev ts
theorem geoS {v : V} {T R B T' R' B' : Int} {H : Hp} (hf : FloorAt Z H v (lowT T R B) (lowR T R B) (lowB T R B) (lowT T' R' B') (lowR T' R' B') (lowB T' R' B')) (sb : ShB T R B T' R' B') : GeoF (hasB T R B T' R' B') := by
  obtain ⟨a, dx, u, g, vx, vy, D, X1, X2, Y1, Y2, -, -, -, -, -, -, G⟩ := hf
  have n1 : B ≠ 0 := by have := sb.p; omega
  have n2 : B' ≠ 0 := by have := sb.p'; omega
  have l1 := (low_is (t := T) (r := R) (b := B) n1).pos
  have l2 := (low_is (t := T') (r := R') (b := B') n2).pos
  have := geoF l1 l2 G (noBar (by rw [bar_low n1 n2]; exact sb.nb))
  rwa [show hasB (lowT T R B) (lowR T R B) (lowB T R B) (lowT T' R' B') (lowR T' R' B') (lowB T' R' B') = hasB T R B T' R' B' from funext (has_low sb.p sb.p')] at this
abbrev s_tile_between : Stmt := top 30
theorem sc_tile_between : FnScope ["corner", "one", "other", "own", "direction", "i", "j"] ["corner", "one", "other"] (defScope s_tile_between) := ⟨rfl, rfl, rfl, by decide +kernel, rfl, by decide +kernel, by decide +kernel⟩

def sp_tile_between (Z : Zs) : Sp := fun vs H Q E =>
  ∃ v c d e, vs = [v, .int d, .int e] ∧ CorAt H v c ∧ 0 ≤ d ∧ d ≤ 7 ∧ 0 ≤ e ∧ e ≤ 7 ∧ ∀ t H', Same H H' → TileAt H' (.ref t) (betC c d e) (lowD d e) (hiD d e) → Q (.ref t) H'
theorem ok_tile_between (T : Txt Z mg) (h_step : Has P w Z.K mg base "step" 1 ["corner", "direction", "many"] (sp_step Z)) (D : AtF Z.K mg "tile_between" "tile_between" s_tile_between ["corner", "one", "other"]) : Has P w Z.K mg base "tile_between" 2 ["corner", "one", "other"] (sp_tile_between Z) := by
  refine D.ok sc_tile_between (fun vs H Q E h => ?_) (fun cdv A outer s H vs Q E hr h => ?_)
  · obtain ⟨v, c, d, e, rfl, _⟩ := h
    rfl
  · refine ⟨_, (pss_cons (ps_set (i := 3) sc_tile_between.nd rfl (Or.inl rfl) (pv 0))
      (pss_cons (ps_for (passes_of rfl) rfl (pi_tup (pe_tup (pa_cons (pv 1) (pa_cons (pv 2) pa_nil)))) (pg_name (i := 4) sc_tile_between.nd rfl (Or.inl rfl)) (pss_one (ps_if (pt_cmpR op_gt (pv 4) pe_int (nomark _)) (pss_one (ps_set (i := 3) sc_tile_between.nd rfl (Or.inl rfl) (pe_h (E := ED E) h_step hr (paW (takes_of rfl rfl rfl rfl)) (pa_cons (pv 3) (pa_cons (pv 4) (pa_cons pe_int pa_nil)))))) pss_nil)))
      (pss_cons (ps_asg (pe_callB cr_sorted rfl T.n_sorted (by decide +kernel) (pa_cons (pe_lst (pa_cons (pe_op op_mod (pv 1) pe_int) (pa_cons (pe_op op_mod (pv 2) pe_int) pa_nil))) pa_nil)) (pg_lst rfl (pgs_cons (pg_name (i := 5) sc_tile_between.nd rfl (Or.inl rfl)) (pgs_cons (pg_name (i := 6) sc_tile_between.nd rfl (Or.inl rfl)) pgs_nil))))
      (pss_one (ps_ret (pe_tup (pa_cons (pv 3) (pa_cons (pv 5) (pa_cons (pv 6) pa_nil))))))))), ?_⟩
    try simp only [cxOf]
    obtain ⟨v, c, d, e, rfl, ⟨p, rfl, hp⟩, d0, d7, e0, e7, q⟩ := h
    walk_at "W"
    refine k_tup rfl fun l H1 hl s1 e1 => ?_
    walk_at "W"
    refine k_forT (xs := [.int d, .int e]) (fun i σ' H' => Same H1 H' ∧ ∃ (u : Addr) (C : C4) (x : Option V), σ' = [some (.ref p), some (.int d), some (.int e), some (.ref u), x, none, none] ∧ H' u = some (.tup [.int C.a, .int C.b, .int C.c, .int C.d]) ∧ C = (if i = 0 then c else if i = 1 then (if 3 < d then stepC c d 1 else c) else betC c d e)) e1 ⟨Same.refl _, p, c, none, rfl, s1 _ _ hp, rfl⟩ (fun i σ H h => h.1 _ _ e1) ?_ ?_
    · rintro i x σ' H2 hx ⟨s2, u, C, x4, rfl, eu, eC⟩
      rcases i with _ | _ | i
      · cases hx
        subst eC
        walk_at "W"
        refine w_ite (fun h4 => ?_) (fun h4 => ?_)
        · walk_at "W"
          refine ⟨_, _, d, _, rfl, ⟨u, rfl, eu⟩, d0, d7, fun v2 H3 s3 e3 => ?_⟩
          obtain ⟨u2, rfl, e3⟩ := e3
          walk_at "W"
          exact ⟨s2.trans s3, u2, _, _, rfl, e3, by rw [if_neg (by decide), if_pos rfl, if_pos (show 3 < d by omega)]⟩
        · walk_at "W"
          exact ⟨s2, u, _, _, rfl, eu, by rw [if_neg (show ¬ (0 + 1 = 0) by decide), if_pos rfl, if_neg (show ¬ 3 < d by omega)]⟩
      · cases hx
        subst eC
        walk_at "W"
        refine w_ite (fun h4 => ?_) (fun h4 => ?_)
        · walk_at "W"
          refine ⟨_, _, e, _, rfl, ⟨u, rfl, eu⟩, e0, e7, fun v2 H3 s3 e3 => ?_⟩
          obtain ⟨u2, rfl, e3⟩ := e3
          walk_at "W"
          refine ⟨s2.trans s3, u2, _, _, rfl, e3, ?_⟩
          show _ = betC c d e
          unfold betC
          rw [if_pos (show 3 < e by omega)]
          rfl
        · walk_at "W"
          refine ⟨s2, u, _, _, rfl, eu, ?_⟩
          show _ = betC c d e
          unfold betC
          rw [if_neg (show ¬ 3 < e by omega)]
          rfl
      · simp at hx
    · rintro σ' H2 ⟨s2, u, C, x, rfl, eu, eC⟩
      have eC : C = betC c d e := eC
      subst eC
      walk_at "W"
      refine k_lst rfl fun l2 H3 hl2 s3 e3 => ?_
      walk_at "W"
      refine ⟨l2, [d % 4, e % 4], rfl, SqL.of e3, by simp, fun ns l3 pm pw hl3 => ?_⟩
      have s4 := Same.new (o := .lst (ns.map V.int)) hl3
      have e4 : (upd H3 l3 (.lst (ns.map V.int))) l3 = some (.lst (ns.map V.int)) := upd_same
      generalize upd H3 l3 (.lst (ns.map V.int)) = H4 at *
      rw [sort2 pm pw] at e4
      have e4 : H4 l3 = some (.lst [.int (lowD d e), .int (hiD d e)]) := e4
      refine k_lst2m e4 rfl rfl ?_
      walk_at "W"
      refine k_tup rfl fun t H5 ht s5 e5 => ?_
      have S := s3.trans (s4.trans s5)
      exact q t H5 (s1.trans (s2.trans S)) ⟨t, _, rfl, e5, u, rfl, S _ _ eu⟩
abbrev s_Floor_tiles_at : Stmt := inClass (top 41) 6
theorem sc_Floor_tiles_at : FnScope ["self", "corner", "ways", "behind", "one", "other"] ["self", "corner"] (defScope s_Floor_tiles_at) := ⟨rfl, rfl, rfl, by decide +kernel, rfl, by decide +kernel, by decide +kernel⟩

def sp_Floor_tiles_at (Z : Zs) : Sp := fun vs H Q E =>
  ∃ v o t r b t' r' b', vs = [v, o] ∧ FloorAt Z H v t r b t' r' b' ∧ 0 < b ∧ 0 < b' ∧ ((∃ c, CorAt H o c ∧ C4.bw 590 c ∧ (hasB t r b t' r' b' c = true ∧ (∀ u ws H', H u = none → Same H H' → H' u = some (.tup ws) → TsAt H' ws (tilesF (hasB t r b t' r' b') c) → Q (.ref u) H') ∨ hasB t r b t' r' b' c = false ∧ ErX Z.c_NoCorner "corner" o H E)) ∨ BadCor Z H o ∧ ErX Z.c_BadCorner "corner" o H E)
theorem ok_Floor_tiles_at (T : Txt Z mg) (h_tile_between : Has P w Z.K mg base "tile_between" 2 ["corner", "one", "other"] (sp_tile_between Z)) (h_Floor_sides : HasM P w Z.K mg base Z.c_Floor "sides" 5 ["self", "corner"] (sp_Floor_sides Z)) (D : AtM Z.K Z.c_Floor "tiles_at" "Floor.tiles_at" s_Floor_tiles_at ["self", "corner"]) : HasM P w Z.K mg base Z.c_Floor "tiles_at" 6 ["self", "corner"] (sp_Floor_tiles_at Z) := by
  refine D.ok sc_Floor_tiles_at (fun vs H Q E h => ?_) (fun cdv A outer s H vs Q E hr h => ?_)
  · obtain ⟨v, o, t, r, b, t', r', b', rfl, _⟩ := h
    rfl
  · refine ⟨_, (pss_cons (ps_set (i := 2) sc_Floor_tiles_at.nd rfl (Or.inl rfl) (pe_hm (E := ED E) h_Floor_sides T.c_Floor hr (paW (takes_of rfl rfl rfl rfl)) (pv 0) (pa_cons (pv 1) pa_nil)))
      (pss_cons (ps_set (i := 3) sc_Floor_tiles_at.nd rfl (Or.inl rfl) (pe_op op_catA (pe_slice sl_tupA (pv 2) (po_some pe_int) po_none) (pe_slice sl_tupA (pv 2) po_none (po_some pe_int))))
      (pss_one (ps_ret (pe_callTy cn_tuple rfl T.n_tuple (by decide +kernel) (pa_cons (pe_lc (own := [("one", 4), ("other", 5)]) (g := gTup Z.K 2 (gCons (gName 4) (gCons (gName 5) gNil))) rfl sc_Floor_tiles_at.nd (RZ.pi_zipA rfl T.n_zip (pa_cons (pv 2) (pa_cons (pv 3) pa_nil))) (blkOk_by (N := ["self", "corner", "ways", "behind", "one", "other"]) (sc := defScope s_Floor_tiles_at) (by decide +kernel)) (fun _ _ _ _ _ => pg_tup rfl (pgs_cons (pg_name (i := 4) sc_Floor_tiles_at.nd rfl (Or.inl rfl)) (pgs_cons (pg_name (i := 5) sc_Floor_tiles_at.nd rfl (Or.inl rfl)) pgs_nil))) (fun _ _ _ _ _ => pts_nil) (fun _ _ _ _ _ => (pe_h (E := fun _ => E0) h_tile_between hr pa0 (pa_cons (pv 1) (pa_cons (pv 4) (pa_cons (pv 5) pa_nil)))))) pa_nil)))))), ?_⟩
    try simp only [cxOf]
    obtain ⟨v, o, t, r, b, t', r', b', rfl, hf, pb, pb', hh⟩ := h
    have hf' := hf
    obtain ⟨a, dx, us, g, vx, vy, D, X1, X2, Y1, Y2, rfl, e1, -, -, -, -, G⟩ := hf'
    walk_at "W"
    refine k_meth e1 (ff_none (by decide +kernel) (by decide +kernel)) ?_
    walk_at "W"
    rcases hh with ⟨c, hc, wc, ⟨y, q⟩ | ⟨no, er⟩⟩ | ⟨bad, er⟩
    · refine ⟨_, o, t, r, b, t', r', b', rfl, hf, pb, pb', .inl ⟨c, hc, wc, .inl ⟨y, fun u H1 hu s1 fz => ?_⟩⟩⟩
      obtain ⟨pc, rfl, hpc⟩ := hc
      have gp := gapH pb pb' G y
      have l3 := (sidesF_next gp).1
      have l8 := sidesF_len (f := hasB t r b t' r' b') (c := c) (n := 8)
      walk_at "W"
      refine k_slTS (xs := (sidesF (hasB t r b t' r' b') c 8).map V.int) fz.sq (fun h => by rw [show (some (1 : Int)) = some ((1 : Nat) : Int) from rfl, HT.sIx_nat, List.length_map] at h; omega) fun t1 H2 ht1 s2 f2 => ?_
      walk_at "W"
      refine k_slTS (xs := (sidesF (hasB t r b t' r' b') c 8).map V.int) (fz.same s2).sq (fun h => by rw [show (some (1 : Int)) = some ((1 : Nat) : Int) from rfl, HT.sIx_nat, List.length_map] at h; omega) fun t2 H3 ht2 s3 f3 => ?_
      have f2 := s3 _ _ f2
      rw [show (some (1 : Int)) = some ((1 : Nat) : Int) from rfl, cutV_tail, ← List.map_drop] at f2
      rw [show (some (1 : Int)) = some ((1 : Nat) : Int) from rfl, cutV_head, ← List.map_take] at f3
      refine w_catA f2 f3 (by simp only [List.length_map, List.length_drop, List.length_take]; exact Nat.ble_eq_true_of_le (by omega)) fun t3 H4 s4 f4 => ?_
      rw [← List.map_append] at f4
      have f4 : H4 t3 = some (.tup ((rotL (sidesF (hasB t r b t' r' b') c 8)).map V.int)) := f4
      have S14 := s2.trans (s3.trans s4)
      have S4 := s1.trans S14
      have fz4 := fz.same S14
      walk_at "W"
      refine k_lcZS (xs := (sidesF (hasB t r b t' r' b') c 8).map V.int) (ys := (rotL (sidesF (hasB t r b t' r' b') c 8)).map V.int) (fun i D H' => H4 D = none ∧ (∃ vs, H' D = some (.lst vs) ∧ TsAt H' vs ((tilesF (hasB t r b t' r' b') c).take i)) ∧ Same H4 H') fz4.sq (SqT.of f4) (by rw [List.length_map, List.length_map, rotL_len]) (fun D hD => ⟨hD, ⟨[], upd_same, by rw [List.take_zero]; trivial⟩, Same.new hD⟩) (fun i D H' h => ⟨(fz4.same h.2.2).sq, SqT.of (h.2.2 _ _ f4)⟩) ?_ ?_
      · rintro i x y D H' TT H5 hx hy ⟨hD, ⟨vs, ev, ts⟩, ss⟩ hT s5 eT
        rw [List.getElem?_map] at hx hy
        obtain ⟨d, hd, rfl⟩ := Option.map_eq_some_iff.mp hx
        obtain ⟨e, he, rfl⟩ := Option.map_eq_some_iff.mp hy
        obtain ⟨kd, hkd, ed, yd⟩ := sidesF_mem.mp (List.mem_of_getElem? hd)
        have me : e ∈ sidesF (hasB t r b t' r' b') c 8 := by
          have := List.mem_of_getElem? he
          unfold rotL at this
          rcases List.mem_append.mp this with m | m
          · exact List.mem_of_mem_drop m
          · exact List.mem_of_mem_take m
        obtain ⟨ke, hke, ee, ye⟩ := sidesF_mem.mp me
        have hz : (tilesF (hasB t r b t' r' b') c)[i]? = some (betT c d e) := by
          unfold tilesF
          rw [List.getElem?_zipWith, hd, he]
        refine k_tupl2 eT rfl rfl ⟨rfl, w_yes (w_T rfl ?_)⟩
        walk_at "W"
        refine ⟨_, c, d, e, rfl, ⟨pc, rfl, s5 _ _ (ss _ _ (S4 _ _ hpc))⟩, by omega, by omega, by omega, by omega, fun t H6 s6 ht => ?_⟩
        have S6 := s5.trans s6
        have nt : t ≠ D := fun z => by
          obtain ⟨pt, xt, e1, e2, _⟩ := ht
          cases e1
          rw [z, S6 _ _ ev] at e2
          cases e2
        refine ⟨vs, S6 _ _ ev, sz_lt (by rw [ts.len, List.length_take, tilesF_len]; omega), hD, ⟨vs ++ [.ref t], upd_same, ?_⟩, fun b o eb => ?_⟩
        · rw [List.take_add_one, hz]
          have KD : Kpt H6 (upd H6 D (.lst (vs ++ [.ref t]))) := Kpt.updL (S6 _ _ ev)
          exact (ts.kpt ((Kpt.same S6).trans KD)).add (t := betT c d e) (ht.kpt KD)
        · rw [upd_ne (ne_of_none eb hD)]
          exact S6 _ _ (ss b o eb)
      · rintro D H5 ⟨hD, ⟨vs, ev, ts⟩, ss⟩
        rw [List.take_of_length_le (by rw [tilesF_len, List.length_map]; omega)] at ts
        exact w_tupL ev fun u H6 hu s6 e6 => q u vs H6 ((S4.trans ss).free hu) (S4.trans (ss.trans s6)) e6 (ts.kpt (Kpt.same s6))
    · exact ⟨_, o, t, r, b, t', r', b', rfl, hf, pb, pb', .inl ⟨c, hc, wc, .inr ⟨no, er⟩⟩⟩
    · exact ⟨_, o, t, r, b, t', r', b', rfl, hf, pb, pb', .inr ⟨bad, er⟩⟩
local macro_rules | `(tactic| walk_at "s") => `(tactic| first | with_reducible refine L2.My.w_tm ?_)
def tlD3 (t : C4 × Int × Int) : PyData := .tuple [corD t.1, .int t.2.1, .int t.2.2]
theorem tile_dp3 {K : PySem.W.Frag} {H : Hp} {v : V} {t : C4 × Int × Int} (h : TileAt H v t.1 t.2.1 t.2.2) : Dp K H v (tlD3 t) := by
  obtain ⟨p, x, rfl, e, hc⟩ := h
  exact .tup (SqT.of e) (.cons (cor_dp hc) (.cons (.int _) (.cons (.int _) .nil)))
theorem tl_shaped3 (t : C4 × Int × Int) : SeqAt.shaped (tlD3 t) = true := by
  unfold SeqAt.shaped tlD3 corD
  rfl
theorem cor_eqv (c d : C4) : PyData.eqv (corD c) (corD d) = decide (c = d) := by
  unfold corD
  simp only [PyData.eqv, PyData.eqvAll, Bool.and_true]
  rw [Bool.eq_iff_iff]
  simp only [Bool.and_eq_true, beq_iff_eq, decide_eq_true_eq]
  constructor
  · rintro ⟨h1, h2, h3, h4⟩
    cases c
    cases d
    simp_all
  · rintro rfl
    exact ⟨rfl, rfl, rfl, rfl⟩
theorem tl_eqv (s t : C4 × Int × Int) : PyData.eqv (tlD3 s) (tlD3 t) = decide (s = t) := by
  unfold tlD3
  simp only [PyData.eqv, PyData.eqvAll, Bool.and_true, cor_eqv]
  rw [Bool.eq_iff_iff]
  simp only [Bool.and_eq_true, beq_iff_eq, decide_eq_true_eq]
  constructor
  · rintro ⟨h1, h2, h3⟩
    obtain ⟨a, b, c⟩ := s
    obtain ⟨a', b', c'⟩ := t
    simp_all
  · rintro rfl
    exact ⟨rfl, rfl, rfl⟩
theorem first_ix {d : Int} : ∀ {L : List Int}, d ∈ L → ∃ n : Nat, L[n]? = some d ∧ ∀ m : Nat, m < n → L[m]? ≠ some d
  | [], h => by cases h
  | x :: L, h => by
    by_cases e : x = d
    · exact ⟨0, by rw [e]; rfl, fun m hm => absurd hm (Nat.not_lt_zero _)⟩
    · have h : d ∈ L := by
        rcases List.mem_cons.mp h with z | z
        · exact absurd z.symm e
        · exact z
      obtain ⟨n, h1, h2⟩ := first_ix h
      refine ⟨n + 1, h1, fun m hm => ?_⟩
      cases m with
      | zero => exact fun z => e (Option.some.inj z)
      | succ m => exact h2 m (by omega)
theorem atI_pred {xs : List V} {n : Nat} {v : V} (h : n < xs.length) (e : xs[(n + xs.length - 1) % xs.length]? = some v) : atI xs ((n : Int) - 1) = some v := by
  cases n with
  | zero =>
    rw [Nat.zero_add, Nat.mod_eq_of_lt (by omega)] at e
    have : xs = xs.take (xs.length - 1) ++ [v] := by
      have h2 := (List.take_of_length_le (l := xs) (i := xs.length - 1 + 1) (by omega)).symm
      rw [List.take_add_one, e] at h2
      exact h2
    rw [this]
    exact atI_last _ _
  | succ n =>
    rw [show n + 1 + xs.length - 1 = n + xs.length by omega, Nat.add_mod_right, Nat.mod_eq_of_lt (by omega)] at e
    rw [show ((n + 1 : Nat) : Int) - 1 = (n : Int) by omega]
    exact atI_nat e
theorem step_comm {c : C4} {i j : Int} (i0 : 0 ≤ i) (i3 : i ≤ 3) (j0 : 0 ≤ j) (j3 : j ≤ 3) : stepC (stepC c i 1) j 1 = stepC (stepC c j 1) i 1 := by
  have h1 : i = 0 ∨ i = 1 ∨ i = 2 ∨ i = 3 := by omega
  have h2 : j = 0 ∨ j = 1 ∨ j = 2 ∨ j = 3 := by omega
  rcases h1 with rfl | rfl | rfl | rfl <;> rcases h2 with rfl | rfl | rfl | rfl <;> rfl
def startK (c : C4) (i j k : Int) : C4 := if k = 1 then stepC c i 1 else if k = 2 then stepC c j 1 else c
def dirK (i j k : Int) : Int := if k = 0 then i else if k = 1 then j else if k = 2 then i else j
theorem all_cors {f : C4 → Bool} {c : C4} {i j : Int} (h : (corsT c i j).all f = true) : f c = true ∧ f (stepC c i 1) = true ∧ f (stepC c j 1) = true ∧ f (stepC (stepC c i 1) j 1) = true := by
  simp only [corsT, List.all_cons, List.all_nil, Bool.and_true, Bool.and_eq_true] at h
  exact h
theorem start_there {f : C4 → Bool} {c : C4} {i j k : Int} (i0 : 0 ≤ i) (ij : i < j) (j3 : j ≤ 3) (k0 : 0 ≤ k) (k3 : k ≤ 3) (h : (corsT c i j).all f = true) : f (startK c i j k) = true ∧ f (stepC (startK c i j k) (dirK i j k) 1) = true := by
  obtain ⟨h1, h2, h3, h4⟩ := all_cors h
  have hk : k = 0 ∨ k = 1 ∨ k = 2 ∨ k = 3 := by omega
  rcases hk with rfl | rfl | rfl | rfl
  · exact ⟨h1, h2⟩
  · exact ⟨h2, h4⟩
  · exact ⟨h3, by show f (stepC (stepC c j 1) i 1) = true; rw [step_comm (by omega) j3 i0 (by omega)]; exact h4⟩
  · exact ⟨h1, h3⟩
/-- what lies across: the row of tiles about the side's start, and the side's place in it -/
def Across (f : C4 → Bool) (t : C4 × Int × Int) (k : Int) (x : C4 × Int × Int) : Prop := ∃ (n : Nat) (y : C4 × Int × Int), (sidesF f (startK t.1 t.2.1 t.2.2 k) 8)[n]? = some (dirK t.2.1 t.2.2 k) ∧ (tilesF f (startK t.1 t.2.1 t.2.2 k))[n]? = some y ∧
  (y ≠ t ∧ x = y ∨ y = t ∧ (tilesF f (startK t.1 t.2.1 t.2.2 k))[(n + (sidesF f (startK t.1 t.2.1 t.2.2 k) 8).length - 1) % (sidesF f (startK t.1 t.2.1 t.2.2 k) 8).length]? = some x)
theorem TsAt.at' {H : Hp} : ∀ {vs : List V} {ts : List (C4 × Int × Int)} {i : Nat} {t : C4 × Int × Int}, TsAt H vs ts → ts[i]? = some t → ∃ v, vs[i]? = some v ∧ TileAt H v t.1 t.2.1 t.2.2
  | v :: _, t :: _, 0, _, h, e => by
    cases e
    exact ⟨v, rfl, h.1⟩
  | _ :: _, _ :: _, i + 1, _, h, e => TsAt.at' (i := i) h.2 e
  | [], [], _, _, _, e => by simp at e
  | [], _ :: _, _, _, h, _ => h.elim
  | _ :: _, [], _, _, h, _ => h.elim
abbrev s_Floor_across : Stmt := inClass (top 41) 7
theorem sc_Floor_across : FnScope ["self", "tile", "side", "corner", "i", "j", "starts", "directions", "start", "at", "about"] ["self", "tile", "side"] (defScope s_Floor_across) := ⟨rfl, rfl, rfl, by decide +kernel, rfl, by decide +kernel, by decide +kernel⟩

def sp_Floor_across (Z : Zs) : Sp := fun vs H Q E =>
  ∃ v o s t r b t' r' b', vs = [v, o, s] ∧ FloorAt Z H v t r b t' r' b' ∧ 0 < b ∧ 0 < b' ∧ (NoTile Z H o ∧ ErX Z.c_BadTile "tile" o H E ∨ ∃ c i j, TileAt H o c i j ∧ 0 ≤ i ∧ i < j ∧ j ≤ 3 ∧ C4.bw 500 c ∧ ((corsT c i j).all (hasB t r b t' r' b') = false ∧ ErX Z.c_NoTile "tile" o H E ∨ (corsT c i j).all (hasB t r b t' r' b') = true ∧ ThI Z H s ∧
    ((isI s = false ∨ ∃ k, s = .int k ∧ ¬ (0 ≤ k ∧ k ≤ 3)) ∧ ErX Z.c_BadSide "side" s H E ∨ ∃ k, s = .int k ∧ 0 ≤ k ∧ k ≤ 3 ∧ ∀ u x H', Same H H' → TileAt H' (.ref u) (x : C4 × Int × Int).1 x.2.1 x.2.2 → Across (hasB t r b t' r' b') (c, i, j) k x → Q (.ref u) H')))
theorem ok_Floor_across (T : Txt Z mg) (h_step : Has P w Z.K mg base "step" 1 ["corner", "direction", "many"] (sp_step Z)) (h_is_integral : Has P w Z.K mg base "is_integral" 1 ["thing"] (sp_is_integral Z)) (h_BadSide : HasX P w Z.K mg base "BadSide" Z.c_BadSide 1 ["self", "side"] (sp_BadSide_init Z)) (h_NoTile : HasX P w Z.K mg base "NoTile" Z.c_NoTile 1 ["self", "tile"] (sp_NoTile_init Z)) (h_Floor_tiles_at : HasM P w Z.K mg base Z.c_Floor "tiles_at" 6 ["self", "corner"] (sp_Floor_tiles_at Z)) (h_Floorways : HasM P w Z.K mg base Z.c_Floor "_ways" 4 ["self", "corner"] (sp_Floorways Z)) (h_Floor_has_tile : HasM P w Z.K mg base Z.c_Floor "has_tile" 6 ["self", "tile"] (sp_Floor_has_tile Z)) (D : AtM Z.K Z.c_Floor "across" "Floor.across" s_Floor_across ["self", "tile", "side"]) : HasM P w Z.K mg base Z.c_Floor "across" 7 ["self", "tile", "side"] (sp_Floor_across Z) := by
  refine D.ok sc_Floor_across (fun vs H Q E h => ?_) (fun cdv A outer s H vs Q E hr h => ?_)
  · obtain ⟨v, o, s, t, r, b, t', r', b', rfl, _⟩ := h
    rfl
  · refine ⟨_, (pss_cons (ps_if (pt_not (pt_val (pe_hm (E := ED E) h_Floor_has_tile T.c_Floor hr (paW (takes_of rfl rfl rfl rfl)) (pv 0) (pa_cons (pv 1) pa_nil)))) (pss_one (ps_raise rfl (takes_of rfl rfl rfl rfl) (pm_h T.x_NoTile h_NoTile hr (pa_cons (pv 1) pa_nil)))) pss_nil)
      (pss_cons (ps_if (PW.pt (pw_or (pt_not (pt_val (pe_h (E := ED E) h_is_integral hr (paW (takes_of rfl rfl rfl rfl)) (pa_cons (pv 2) pa_nil)))) (pw_or1 (pt_not (pt_chain op_le op_le pe_int (pv 2) pe_int))))) (pss_one (ps_raise rfl (takes_of rfl rfl rfl rfl) (pm_h T.x_BadSide h_BadSide hr (pa_cons (pv 2) pa_nil)))) pss_nil)
      (pss_cons (ps_asg (pv 1) (pg_tup rfl (pgs_cons (pg_name (i := 3) sc_Floor_across.nd rfl (Or.inl rfl)) (pgs_cons (pg_name (i := 4) sc_Floor_across.nd rfl (Or.inl rfl)) (pgs_cons (pg_name (i := 5) sc_Floor_across.nd rfl (Or.inl rfl)) pgs_nil)))))
      (pss_cons (ps_set (i := 6) sc_Floor_across.nd rfl (Or.inl rfl) (pe_tup (pa_cons (pv 3) (pa_cons (pe_h (E := ED E) h_step hr (paW (takes_of rfl rfl rfl rfl)) (pa_cons (pv 3) (pa_cons (pv 4) (pa_cons pe_int pa_nil)))) (pa_cons (pe_h (E := ED E) h_step hr (paW (takes_of rfl rfl rfl rfl)) (pa_cons (pv 3) (pa_cons (pv 5) (pa_cons pe_int pa_nil)))) (pa_cons (pv 3) pa_nil))))))
      (pss_cons (ps_set (i := 7) sc_Floor_across.nd rfl (Or.inl rfl) (pe_tup (pa_cons (pv 4) (pa_cons (pv 5) (pa_cons (pv 4) (pa_cons (pv 5) pa_nil))))))
      (pss_cons (ps_set (i := 8) sc_Floor_across.nd rfl (Or.inl rfl) (pe_ix ix_seq (pv 6) (pv 2) (fun _ _ => rfl)))
      (pss_cons (ps_set (i := 9) sc_Floor_across.nd rfl (Or.inl rfl) (pe_tm PySem.F.plainAttrs_tuple PySem.F.slot_tuple_index PySem.F.type_tuple_index mt_tupIx (pe_hm (E := ED E) h_Floorways T.c_Floor hr (paW (takes_of rfl rfl rfl rfl)) (pv 0) (pa_cons (pv 8) pa_nil)) (pa_cons (pe_ix ix_seq (pv 7) (pv 2) (fun _ _ => rfl)) pa_nil)))
      (pss_cons (ps_set (i := 10) sc_Floor_across.nd rfl (Or.inl rfl) (pe_hm (E := ED E) h_Floor_tiles_at T.c_Floor hr (paW (takes_of rfl rfl rfl rfl)) (pv 0) (pa_cons (pv 8) pa_nil)))
      (pss_cons (ps_if (pt_cmpR (op_eqD hr.units) (pe_ix ix_seq (pv 10) (pv 9) (fun _ _ => rfl)) (pv 1) (nomark _)) (pss_one (ps_ret (pe_ix ix_seq (pv 10) (pe_op op_sub (pv 9) pe_int) (fun _ _ => rfl)))) pss_nil)
      (pss_one (ps_ret (pe_ix ix_seq (pv 10) (pv 9) (fun _ _ => rfl))))))))))))), ?_⟩
    try simp only [cxOf]
    obtain ⟨v, o, s, t, r, b, t', r', b', rfl, hf, pb, pb', hh⟩ := h
    have hf' := hf
    obtain ⟨a, dx, us, g, vx, vy, D, X1, X2, Y1, Y2, rfl, e1, -, -, -, -, G⟩ := hf'
    have meth : ∀ {m : Str} {H' : Hp} {N : Hp → Prop}, Same H H' → (m == ("shift" : Str)) = false → (m == ("_gauge" : Str)) = false → N H' → MethP Z.c_Floor m (.ref a) H' N := fun {m H' N} k n1 n2 hn => k_meth (k _ _ e1) (ff_none n1 n2) hn
    walk_at "W"
    refine meth (Same.refl _) (by decide +kernel) (by decide +kernel) ?_
    walk_at "W"
    rcases hh with ⟨no, er⟩ | ⟨c, i, j, ht, i0, ij, j3, wc, hh⟩
    · exact ⟨_, o, t, r, b, t', r', b', rfl, hf, pb, pb', .inl ⟨no, er⟩⟩
    refine ⟨_, o, t, r, b, t', r', b', rfl, hf, pb, pb', .inr ⟨c, i, j, ht, i0, ij, j3, wc, fun H1 s1 => ?_⟩⟩
    rcases hh with ⟨na, er⟩ | ⟨al, th, hh⟩
    · rw [na]
      walk_at "W"
      exact k_mkO (er.same s1)
    rw [al]
    walk_at "W"
    refine ⟨_, rfl, thI_same th s1, ?_⟩
    rcases hh with ⟨bad, er⟩ | ⟨k, rfl, k0, k3, q⟩
    · rcases bad with e | ⟨k, rfl, n⟩
      · rw [e]
        walk_at "W"
        exact k_mkO (er.same s1)
      · walk_at "W"
        refine w_ite (fun h1 => ?_) (fun h1 => ?_)
        · walk_at "W"
          rw [decide_eq_false (show ¬ k ≤ 3 by omega)]
          walk_at "W"
          exact k_mkO (er.same s1)
        · walk_at "W"
          exact k_mkO (er.same s1)
    walk_at "W"
    rw [decide_eq_true k0]
    walk_at "W"
    rw [decide_eq_true k3]
    walk_at "W"
    obtain ⟨p, xc, rfl, hp, pc, rfl, hc⟩ := ht.same s1
    refine k_tup3n hp rfl rfl ?_
    walk_at "W"
    refine ⟨_, c, i, _, rfl, ⟨pc, rfl, hc⟩, by omega, by omega, fun v2 H2 s2 c2 => ?_⟩
    walk_at "W"
    refine ⟨_, c, j, _, rfl, ⟨pc, rfl, s2 _ _ hc⟩, by omega, by omega, fun v3 H3 s3 c3 => ?_⟩
    walk_at "W"
    refine k_tup rfl fun u4 H4 hu4 s4 e4 => ?_
    walk_at "W"
    refine k_tup rfl fun u5 H5 hu5 s5 e5 => ?_
    have S5 := s2.trans (s3.trans (s4.trans s5))
    have e45 := s5 _ _ e4
    obtain ⟨vs', hvs, cvs⟩ : ∃ v', atI [V.ref pc, v2, v3, .ref pc] k = some v' ∧ CorAt H5 v' (startK c i j k) := by
      have hk : k = 0 ∨ k = 1 ∨ k = 2 ∨ k = 3 := by omega
      rcases hk with rfl | rfl | rfl | rfl
      · exact ⟨_, rfl, pc, rfl, S5 _ _ hc⟩
      · exact ⟨_, rfl, c2.same (s3.trans (s4.trans s5))⟩
      · exact ⟨_, rfl, c3.same (s4.trans s5)⟩
      · exact ⟨_, rfl, pc, rfl, S5 _ _ hc⟩
    have hdir : atI [V.int i, .int j, .int i, .int j] k = some (.int (dirK i j k)) := by
      have hk : k = 0 ∨ k = 1 ∨ k = 2 ∨ k = 3 := by omega
      rcases hk with rfl | rfl | rfl | rfl <;> rfl
    obtain ⟨f0, f1⟩ := start_there i0 ij j3 k0 k3 al
    have ws : C4.bw 501 (startK c i j k) := by
      unfold startK
      split
      · exact step_bw i0 (by omega) wc
      split
      · exact step_bw (by omega) (by omega) wc
      · exact wc.mono (by decide)
    have d03 : 0 ≤ dirK i j k ∧ dirK i j k ≤ 3 := by
      unfold dirK
      split
      · omega
      split
      · omega
      split <;> omega
    generalize hst : startK c i j k = st at *
    generalize hdd : dirK i j k = dd at *
    have md : dd ∈ sidesF (hasB t r b t' r' b') st 8 := sidesF_mem.mpr ⟨dd.toNat, by omega, by omega, f1⟩
    obtain ⟨n, hn, hfirst⟩ := first_ix md
    have hnl : n < (sidesF (hasB t r b t' r' b') st 8).length := (List.getElem?_eq_some_iff.mp hn).1
    walk_at "W"
    refine w_ixT e45 hvs ?_
    walk_at "W"
    have SS := s1.trans S5
    refine meth SS (by decide +kernel) (by decide +kernel) ?_
    obtain ⟨ps, rfl, hps⟩ := cvs
    walk_at "W"
    refine ⟨_, ps, st, t, r, b, t', r', b', rfl, hf.same SS, pb, pb', hps, ws.mono (by decide), fun uw H6 huw s6 fz => ?_⟩
    refine k_tm fz ?_
    have e56 := s6 _ _ e5
    walk_at "W"
    refine w_ixT e56 hdir ?_
    walk_at "W"
    refine ⟨uw, sidesF (hasB t r b t' r' b') st 8, dd, n, rfl, rfl, fz.sq, hn, hfirst, ?_⟩
    walk_at "W"
    have S6 := SS.trans s6
    refine meth S6 (by decide +kernel) (by decide +kernel) ?_
    walk_at "W"
    refine ⟨_, _, t, r, b, t', r', b', rfl, hf.same S6, pb, pb', .inl ⟨st, ⟨ps, rfl, s6 _ _ hps⟩, ws.mono (by decide), .inl ⟨f0, fun ua wa H7 hua s7 ea ts => ?_⟩⟩⟩
    have tl := tilesF_len (f := hasB t r b t' r' b') (c := st)
    have lw := ts.len
    obtain ⟨y, hy⟩ : ∃ y, (tilesF (hasB t r b t' r' b') st)[n]? = some y := ⟨_, List.getElem?_eq_getElem (by omega)⟩
    obtain ⟨vy, hvy, tvy⟩ := ts.at' hy
    walk_at "W"
    refine w_ixT ea (atI_nat hvy) ?_
    have S57 := s6.trans s7
    have t0 : TileAt H7 (.ref p) c i j := ⟨p, _, rfl, (S5.trans S57) _ _ hp, pc, rfl, (S5.trans S57) _ _ hc⟩
    walk_at "W"
    refine ⟨tlD3 y, tlD3 (c, i, j), tile_dp3 tvy, tile_dp3 (t := (c, i, j)) t0, tl_shaped3 _, tl_shaped3 _, ?_⟩
    rw [tl_eqv]
    have S7 := S6.trans s7
    by_cases eqy : y = (c, i, j)
    · rw [decide_eq_true eqy]
      walk_at "W"
      obtain ⟨x, hx⟩ : ∃ x, (tilesF (hasB t r b t' r' b') st)[(n + (sidesF (hasB t r b t' r' b') st 8).length - 1) % (sidesF (hasB t r b t' r' b') st 8).length]? = some x := ⟨_, List.getElem?_eq_getElem (by rw [tl]; exact Nat.mod_lt _ (by omega))⟩
      obtain ⟨vx2, hvx, tvx⟩ := ts.at' hx
      refine w_ixT ea (atI_pred (by omega) (by rw [lw, tl]; exact hvx)) ?_
      have tvx' := tvx
      obtain ⟨px, xx, rfl, -, -⟩ := tvx'
      exact q px x H7 S7 tvx ⟨n, y, by simp only [hst, hdd]; exact hn, by simp only [hst]; exact hy, .inr ⟨eqy, by simp only [hst]; exact hx⟩⟩
    · rw [decide_eq_false eqy]
      walk_at "W"
      refine w_ixT ea (atI_nat hvy) ?_
      have tvy' := tvy
      obtain ⟨px, xx, rfl, -, -⟩ := tvy'
      exact q px y H7 S7 tvy ⟨n, y, by simp only [hst, hdd]; exact hn, by simp only [hst]; exact hy, .inl ⟨eqy, rfl⟩⟩
/-! what lies across a side, and back -/
def chkN (L : List Int) (a : Nat → Bool) : Bool :=
  (List.range 8).all fun i => decide (L.length ≤ i) || (List.range 3).all fun g => !(a (((L.getD i 0).toNat + (g + 1)) % 8)) || !((List.range (g + 1)).all fun k => decide (k = 0) || !(a (((L.getD i 0).toNat + k) % 8))) ||
    decide (L.getD ((i + 1) % L.length) 0 = ((((L.getD i 0).toNat + (g + 1)) % 8 : Nat) : Int))
theorem chkN_all : ∀ a0 a1 a2 a3 a4 a5 a6 a7 : Bool, chkN (row8 a0 a1 a2 a3 a4 a5 a6 a7) (pick8 a0 a1 a2 a3 a4 a5 a6 a7) = true := by decide +kernel
theorem next_of {f : C4 → Bool} {c : C4} {i d g : Nat} (hd : (sidesF f c 8)[i]? = some (d : Int)) (g1 : 1 ≤ g) (g3 : g ≤ 3) (ye : f (stepC c ((d + g) % 8 : Nat) 1) = true) (no : ∀ k, 0 < k → k < g → f (stepC c ((d + k) % 8 : Nat) 1) = false) :
    (sidesF f c 8).getD ((i + 1) % (sidesF f c 8).length) 0 = ((d + g) % 8 : Nat) := by
  have hi : i < (sidesF f c 8).length := (List.getElem?_eq_some_iff.mp hd).1
  have l8 := sidesF_len (f := f) (c := c) (n := 8)
  have gd : (sidesF f c 8).getD i 0 = (d : Int) := by rw [List.getD_eq_getElem?_getD, hd]; rfl
  have k := chkN_all (f (stepC c 0 1)) (f (stepC c 1 1)) (f (stepC c 2 1)) (f (stepC c 3 1)) (f (stepC c 4 1)) (f (stepC c 5 1)) (f (stepC c 6 1)) (f (stepC c 7 1))
  have eqL : sidesF f c 8 = row8 (f (stepC c 0 1)) (f (stepC c 1 1)) (f (stepC c 2 1)) (f (stepC c 3 1)) (f (stepC c 4 1)) (f (stepC c 5 1)) (f (stepC c 6 1)) (f (stepC c 7 1)) := sidesF_eq
  rw [← eqL] at k
  unfold chkN at k
  rw [List.all_eq_true] at k
  have k := k i (List.mem_range.mpr (by omega))
  rw [gd] at k
  have cs : ∀ z : Nat, z < 8 → pick8 (f (stepC c 0 1)) (f (stepC c 1 1)) (f (stepC c 2 1)) (f (stepC c 3 1)) (f (stepC c 4 1)) (f (stepC c 5 1)) (f (stepC c 6 1)) (f (stepC c 7 1)) z = f (stepC c (z : Int) 1) := fun z hz => by
    have : z = 0 ∨ z = 1 ∨ z = 2 ∨ z = 3 ∨ z = 4 ∨ z = 5 ∨ z = 6 ∨ z = 7 := by omega
    rcases this with rfl | rfl | rfl | rfl | rfl | rfl | rfl | rfl <;> rfl
  rw [show ((d : Int)).toNat = d from Int.toNat_natCast d] at k
  simp only [Bool.or_eq_true, decide_eq_true_eq, List.all_eq_true, List.mem_range] at k
  rcases k with k | k
  · omega
  · have k := k (g - 1) (by omega)
    rw [show g - 1 + 1 = g by omega, cs _ (Nat.mod_lt _ (by decide)), ye] at k
    rcases k with (k | k) | k
    · simp at k
    · exfalso
      rw [Bool.not_eq_true', ← Bool.not_eq_true, List.all_eq_true] at k
      refine k fun j hj => ?_
      rw [List.mem_range] at hj
      by_cases j0 : j = 0
      · rw [j0]; rfl
      · rw [cs _ (Nat.mod_lt _ (by decide)), no j (by omega) hj]
        simp
    · exact k
theorem sidesF_nodup {f : C4 → Bool} {c : C4} : (sidesF f c 8).Nodup := by
  unfold sidesF
  refine List.Pairwise.filter _ ?_
  rw [List.pairwise_map]
  exact List.nodup_range.imp fun h z => h (Int.ofNat.inj z)
theorem ix_one {L : List Int} (nd : L.Nodup) {m n : Nat} {d : Int} (h1 : L[m]? = some d) (h2 : L[n]? = some d) : m = n := by
  obtain ⟨l1, e1⟩ := List.getElem?_eq_some_iff.mp h1
  obtain ⟨l2, e2⟩ := List.getElem?_eq_some_iff.mp h2
  rcases Nat.lt_trichotomy m n with h | h | h
  · exact absurd (e1.trans e2.symm) (List.pairwise_iff_getElem.mp nd m n l1 l2 h)
  · exact h
  · exact absurd (e2.trans e1.symm) (List.pairwise_iff_getElem.mp nd n m l2 l1 h)
theorem sh_inj {c x y : C4} (h : shC c x = shC c y) : x = y := by
  unfold shC at h
  injection h with h1 h2 h3 h4
  cases x
  cases y
  simp only at *
  congr 1 <;> omega
theorem betT_sh {c x : C4} {d e : Int} (d0 : 0 ≤ d) (d7 : d ≤ 7) (e0 : 0 ≤ e) (e7 : e ≤ 7) : betT (shC c x) d e = (shC c (betC x d e), lowD d e, hiD d e) := by
  unfold betT
  rw [bet_sh d0 d7 e0 e7]
theorem bet_inj0 : ∀ d e e' : Fin 8, ((d.val : Int) % 4 ≠ (e.val : Int) % 4) → ((d.val : Int) % 4 ≠ (e'.val : Int) % 4) → betT ⟨0, 0, 0, 0⟩ (d.val : Int) (e.val : Int) = betT ⟨0, 0, 0, 0⟩ (d.val : Int) (e'.val : Int) → e = e' := by decide +kernel
theorem bet_symm0 : ∀ d e : Fin 8, betT ⟨0, 0, 0, 0⟩ (d.val : Int) (e.val : Int) = betT ⟨0, 0, 0, 0⟩ (e.val : Int) (d.val : Int) := by decide +kernel
theorem side_of0 : ∀ d : Fin 4, ∀ e : Fin 8, ((d.val : Int) % 4 ≠ (e.val : Int) % 4) → ∃ k : Fin 4, startK (betC ⟨0, 0, 0, 0⟩ (d.val : Int) (e.val : Int)) (lowD d.val e.val) (hiD d.val e.val) (k.val : Int) = ⟨0, 0, 0, 0⟩ ∧ dirK (lowD d.val e.val) (hiD d.val e.val) (k.val : Int) = (d.val : Int) := by decide +kernel
theorem tile_as0 : ∀ i j : Fin 4, i.val < j.val → ∀ k : Fin 4, ∃ e : Fin 8, (e.val : Int) % 4 ≠ dirK (i.val : Int) (j.val : Int) (k.val : Int) % 4 ∧ betT (startK ⟨0, 0, 0, 0⟩ (i.val : Int) (j.val : Int) (k.val : Int)) (dirK (i.val : Int) (j.val : Int) (k.val : Int)) (e.val : Int) = (⟨0, 0, 0, 0⟩, (i.val : Int), (j.val : Int)) := by decide +kernel
theorem fin_of {n : Nat} {d : Int} (h0 : 0 ≤ d) (h : d < n) : ∃ x : Fin n, (x.val : Int) = d := ⟨⟨d.toNat, by omega⟩, by show ((d.toNat : Nat) : Int) = d; omega⟩
theorem bet_inj {c : C4} {d e e' : Int} (d0 : 0 ≤ d) (d7 : d ≤ 7) (e0 : 0 ≤ e) (e7 : e ≤ 7) (f0 : 0 ≤ e') (f7 : e' ≤ 7) (n1 : d % 4 ≠ e % 4) (n2 : d % 4 ≠ e' % 4) (h : betT c d e = betT c d e') : e = e' := by
  obtain ⟨x, rfl⟩ := fin_of (n := 8) d0 (by omega)
  obtain ⟨y, rfl⟩ := fin_of (n := 8) e0 (by omega)
  obtain ⟨z, rfl⟩ := fin_of (n := 8) f0 (by omega)
  rw [← sh_zero (c := c), betT_sh d0 d7 e0 e7, betT_sh d0 d7 f0 f7] at h
  injection h with h1 h2
  have := bet_inj0 x y z n1 n2 (by unfold betT; rw [sh_inj h1, h2])
  rw [this]
theorem bet_symm {c : C4} {d e : Int} (d0 : 0 ≤ d) (d7 : d ≤ 7) (e0 : 0 ≤ e) (e7 : e ≤ 7) : betT c d e = betT c e d := by
  obtain ⟨x, rfl⟩ := fin_of (n := 8) d0 (by omega)
  obtain ⟨y, rfl⟩ := fin_of (n := 8) e0 (by omega)
  have h := bet_symm0 x y
  rw [← sh_zero (c := c), betT_sh d0 d7 e0 e7, betT_sh e0 e7 d0 d7]
  unfold betT at h
  injection h with h1 h2
  rw [h1, h2]
theorem start_sh {c x : C4} {i j k : Int} (i0 : 0 ≤ i) (i7 : i ≤ 7) (j0 : 0 ≤ j) (j7 : j ≤ 7) : startK (shC c x) i j k = shC c (startK x i j k) := by
  unfold startK
  split
  · exact step_sh i0 i7
  split
  · exact step_sh j0 j7
  · rfl
theorem side_of {c : C4} {d e : Int} (d0 : 0 ≤ d) (d3 : d ≤ 3) (e0 : 0 ≤ e) (e7 : e ≤ 7) (ne : d % 4 ≠ e % 4) : ∃ k, 0 ≤ k ∧ k ≤ 3 ∧ startK (betT c d e).1 (betT c d e).2.1 (betT c d e).2.2 k = c ∧ dirK (betT c d e).2.1 (betT c d e).2.2 k = d := by
  obtain ⟨x, rfl⟩ := fin_of (n := 4) d0 (by omega)
  obtain ⟨y, rfl⟩ := fin_of (n := 8) e0 (by omega)
  obtain ⟨k, h1, h2⟩ := side_of0 x y ne
  obtain ⟨l0, lh, h3⟩ := lowhi ne
  refine ⟨(k.val : Int), by omega, by omega, ?_, h2⟩
  show startK (betC c _ _) (lowD _ _) (hiD _ _) _ = c
  rw [← sh_zero (c := c), bet_sh d0 (by omega) e0 e7, start_sh l0 (by omega) (by omega) (by omega), h1, sh_zero]
theorem tile_as {c : C4} {i j k : Int} (i0 : 0 ≤ i) (ij : i < j) (j3 : j ≤ 3) (k0 : 0 ≤ k) (k3 : k ≤ 3) : ∃ e, 0 ≤ e ∧ e ≤ 7 ∧ dirK i j k % 4 ≠ e % 4 ∧ betT (startK c i j k) (dirK i j k) e = (c, i, j) := by
  obtain ⟨x, rfl⟩ := fin_of (n := 4) i0 (by omega)
  obtain ⟨y, rfl⟩ := fin_of (n := 4) (d := j) (by omega) (by omega)
  obtain ⟨z, rfl⟩ := fin_of (n := 4) k0 (by omega)
  obtain ⟨e, h1, h2⟩ := tile_as0 x y (by omega) z
  have dd : 0 ≤ dirK (x.val : Int) (y.val : Int) (z.val : Int) ∧ dirK (x.val : Int) (y.val : Int) (z.val : Int) ≤ 3 := by
    unfold dirK
    split
    · omega
    split
    · omega
    split <;> omega
  refine ⟨(e.val : Int), by omega, by omega, fun z => h1 z.symm, ?_⟩
  rw [← sh_zero (c := c), start_sh (by omega) (by omega) (by omega) (by omega), betT_sh (by omega) (by omega) (by omega) (by omega)]
  unfold betT at h2
  injection h2 with a1 a2
  rw [a1, a2]
theorem step_comm8 {c : C4} {d e : Int} (d0 : 0 ≤ d) (d7 : d ≤ 7) (e0 : 0 ≤ e) (e7 : e ≤ 7) : stepC (stepC c d 1) e 1 = stepC (stepC c e 1) d 1 := by
  obtain ⟨a1, a2, a3, a4⟩ := unit_add e0 e7 (stepC c d 1)
  obtain ⟨b1, b2, b3, b4⟩ := unit_add d0 d7 (stepC c e 1)
  obtain ⟨c1, c2, c3, c4⟩ := unit_add d0 d7 c
  obtain ⟨d1, d2, d3, d4⟩ := unit_add e0 e7 c
  have ext : ∀ {x y : C4}, x.a = y.a → x.b = y.b → x.c = y.c → x.d = y.d → x = y := fun {x y} h1 h2 h3 h4 => by
    cases x
    cases y
    simp_all
  apply ext <;> omega
theorem mod_pred {n len : Nat} (h : n < len) : ((n + len - 1) % len + 1) % len = n := by
  rcases n with _ | n
  · rw [Nat.zero_add, Nat.mod_eq_of_lt (a := len - 1) (by omega), show len - 1 + 1 = len by omega, Nat.mod_self]
  · rw [show n + 1 + len - 1 = n + len by omega, Nat.add_mod_right, Nat.mod_eq_of_lt (a := n) (by omega), Nat.mod_eq_of_lt h]
theorem startK_bw {n : Nat} {c : C4} {i j k : Int} (i0 : 0 ≤ i) (ij : i < j) (j3 : j ≤ 3) (w : C4.bw n c) : C4.bw (n + 1) (startK c i j k) := by
  unfold startK
  split
  · exact step_bw i0 (by omega) w
  split
  · exact step_bw (by omega) (by omega) w
  · exact w.mono (by omega)
theorem across_back {f : C4 → Bool} (G : GeoF f) (gapf : ∀ c, f c = true → Gap f c) {t x : C4 × Int × Int} {k : Int} (i0 : 0 ≤ t.2.1) (ij : t.2.1 < t.2.2) (j3 : t.2.2 ≤ 3) (k0 : 0 ≤ k) (k3 : k ≤ 3) (al : (corsT t.1 t.2.1 t.2.2).all f = true) (h : Across f t k x) :
    0 ≤ x.2.1 ∧ x.2.1 < x.2.2 ∧ x.2.2 ≤ 3 ∧ (corsT x.1 x.2.1 x.2.2).all f = true ∧ x ≠ t ∧ (∃ k', 0 ≤ k' ∧ k' ≤ 3 ∧ startK x.1 x.2.1 x.2.2 k' = startK t.1 t.2.1 t.2.2 k ∧ dirK x.2.1 x.2.2 k' = dirK t.2.1 t.2.2 k) ∧
    (∃ e e' : Int, 0 ≤ e ∧ e ≤ 7 ∧ 0 ≤ e' ∧ e' ≤ 7 ∧ x.1 = betC (startK t.1 t.2.1 t.2.2 k) e e') ∧ ∀ k' z, startK x.1 x.2.1 x.2.2 k' = startK t.1 t.2.1 t.2.2 k → dirK x.2.1 x.2.2 k' = dirK t.2.1 t.2.2 k → Across f x k' z → z = t := by
  obtain ⟨n, y, hn, hy, hx⟩ := h
  obtain ⟨f0, f1⟩ := start_there i0 ij j3 k0 k3 al
  obtain ⟨e, e0, e7, ne, et⟩ := tile_as (c := t.1) i0 ij j3 k0 k3
  have d03 : 0 ≤ dirK t.2.1 t.2.2 k ∧ dirK t.2.1 t.2.2 k ≤ 3 := by
    unfold dirK
    split
    · omega
    split
    · omega
    split <;> omega
  have back : ∀ k' z, startK x.1 x.2.1 x.2.2 k' = startK t.1 t.2.1 t.2.2 k → dirK x.2.1 x.2.2 k' = dirK t.2.1 t.2.2 k → Across f x k' z → ∃ (n' : Nat) (y' : C4 × Int × Int), (sidesF f (startK t.1 t.2.1 t.2.2 k) 8)[n']? = some (dirK t.2.1 t.2.2 k) ∧ (tilesF f (startK t.1 t.2.1 t.2.2 k))[n']? = some y' ∧
      (y' ≠ x ∧ z = y' ∨ y' = x ∧ (tilesF f (startK t.1 t.2.1 t.2.2 k))[(n' + (sidesF f (startK t.1 t.2.1 t.2.2 k) 8).length - 1) % (sidesF f (startK t.1 t.2.1 t.2.2 k) 8).length]? = some z) := fun k' z h1 h2 h3 => by
    unfold Across at h3
    rw [h1, h2] at h3
    exact h3
  generalize startK t.1 t.2.1 t.2.2 k = A at *
  generalize dirK t.2.1 t.2.2 k = d at *
  have gp := gapf A f0
  obtain ⟨l3, -⟩ := sidesF_next gp
  have nd := sidesF_nodup (f := f) (c := A)
  have hnl : n < (sidesF f A 8).length := (List.getElem?_eq_some_iff.mp hn).1
  have tl := tilesF_len (f := f) (c := A)
  -- the two tiles
  obtain ⟨d', e1, hd1, he1, ey⟩ := tilesF_get hy
  obtain rfl : d' = d := by
    rw [hn] at hd1
    exact (Option.some.inj hd1).symm
  obtain ⟨a0, a7, b0, b7, ne1, al1⟩ := tile_there G gp f0 hn he1
  have hp : (n + (sidesF f A 8).length - 1) % (sidesF f A 8).length < (sidesF f A 8).length := Nat.mod_lt _ (by omega)
  obtain ⟨w, hw⟩ : ∃ w, (tilesF f A)[(n + (sidesF f A 8).length - 1) % (sidesF f A 8).length]? = some w := ⟨_, List.getElem?_eq_getElem (by omega)⟩
  obtain ⟨e2, d2, he2, hd2, ew⟩ := tilesF_get hw
  rw [mod_pred hnl] at hd2
  have ed2 : d2 = d' := by
    rw [← hd2, List.getD_eq_getElem?_getD, hn]
    rfl
  have hd2' : (sidesF f A 8).getD (((n + (sidesF f A 8).length - 1) % (sidesF f A 8).length + 1) % (sidesF f A 8).length) 0 = d' := by
    rw [mod_pred hnl, hd2]
    exact ed2
  clear hd2
  subst ed2
  obtain ⟨c0, c7, _, _, ne2, al2⟩ := tile_there G gp f0 he2 hd2'
  have ew : w = betT A d2 e2 := by rw [ew, bet_symm c0 c7 a0 a7]
  have e12 : e1 ≠ e2 := by
    intro z
    have h1 : (sidesF f A 8)[(n + 1) % (sidesF f A 8).length]? = some e1 := by
      rw [← he1, List.getD_eq_getElem?_getD, List.getElem?_eq_getElem (Nat.mod_lt _ (by omega))]
      rfl
    have := ix_one nd h1 (z ▸ he2)
    rcases Nat.lt_or_ge (n + 1) (sidesF f A 8).length with g | g
    · rw [Nat.mod_eq_of_lt g] at this
      rcases n with _ | n
      · rw [Nat.zero_add, Nat.zero_add, Nat.mod_eq_of_lt (by omega)] at this
        omega
      · rw [show n + 1 + (sidesF f A 8).length - 1 = n + (sidesF f A 8).length by omega, Nat.add_mod_right, Nat.mod_eq_of_lt (by omega)] at this
        omega
    · have en : n + 1 = (sidesF f A 8).length := by omega
      rw [en, Nat.mod_self] at this
      rw [show n + (sidesF f A 8).length - 1 = (n - 1) + (sidesF f A 8).length by omega, Nat.add_mod_right, Nat.mod_eq_of_lt (by omega)] at this
      omega
  have nyw : y ≠ w := fun z => by
    rw [ey, ew] at z
    exact e12 (bet_inj a0 a7 b0 b7 c0 c7 ne1 (fun q => ne2 q.symm) z)
  have oky : 0 ≤ y.2.1 ∧ y.2.1 < y.2.2 ∧ y.2.2 ≤ 3 ∧ (corsT y.1 y.2.1 y.2.2).all f = true ∧ ∃ k', 0 ≤ k' ∧ k' ≤ 3 ∧ startK y.1 y.2.1 y.2.2 k' = A ∧ dirK y.2.1 y.2.2 k' = d2 := by
    rw [ey]
    obtain ⟨q0, q1, q3⟩ := lowhi ne1
    exact ⟨q0, q1, q3, al1, side_of a0 d03.2 b0 b7 ne1⟩
  have okw : 0 ≤ w.2.1 ∧ w.2.1 < w.2.2 ∧ w.2.2 ≤ 3 ∧ (corsT w.1 w.2.1 w.2.2).all f = true ∧ ∃ k', 0 ≤ k' ∧ k' ≤ 3 ∧ startK w.1 w.2.1 w.2.2 k' = A ∧ dirK w.2.1 w.2.2 k' = d2 := by
    rw [show w = betT A e2 d2 by rw [ew, bet_symm a0 a7 c0 c7]]
    obtain ⟨q0, q1, q3⟩ := lowhi ne2
    refine ⟨q0, q1, q3, al2, ?_⟩
    rw [← bet_symm a0 a7 c0 c7]
    exact side_of a0 d03.2 c0 c7 (fun q => ne2 q.symm)
  -- the tile is one of the two
  have tyw : t = y ∨ t = w := by
    have ett : betT A d2 e = t := et
    have al4 : (ends4 A d2 e).all f = true := by
      rw [← (bet_cors a0 a7 e0 e7 ne).all_eq]
      have : (betC A d2 e, lowD d2 e, hiD d2 e) = t := ett
      rw [← this] at al
      exact al
    simp only [ends4, List.all_cons, List.all_nil, Bool.and_true, Bool.and_eq_true] at al4
    obtain ⟨-, -, fe, fde⟩ := al4
    obtain ⟨nn, rfl⟩ : ∃ nn : Nat, d2 = (nn : Int) := ⟨d2.toNat, by omega⟩
    obtain ⟨ee, rfl⟩ : ∃ ee : Nat, e = (ee : Int) := ⟨e.toNat, by omega⟩
    have cs : (∃ g : Nat, 1 ≤ g ∧ g ≤ 3 ∧ ee = (nn + g) % 8) ∨ ∃ g : Nat, 1 ≤ g ∧ g ≤ 3 ∧ nn = (ee + g) % 8 := by
      have h1 : nn < 8 := by omega
      have h2 : ee < 8 := by omega
      have : (ee + 8 - nn) % 8 = 1 ∨ (ee + 8 - nn) % 8 = 2 ∨ (ee + 8 - nn) % 8 = 3 ∨ (ee + 8 - nn) % 8 = 5 ∨ (ee + 8 - nn) % 8 = 6 ∨ (ee + 8 - nn) % 8 = 7 := by omega
      rcases this with h | h | h | h | h | h
      · exact .inl ⟨1, by omega, by omega, by omega⟩
      · exact .inl ⟨2, by omega, by omega, by omega⟩
      · exact .inl ⟨3, by omega, by omega, by omega⟩
      · exact .inr ⟨3, by omega, by omega, by omega⟩
      · exact .inr ⟨2, by omega, by omega, by omega⟩
      · exact .inr ⟨1, by omega, by omega, by omega⟩
    rcases cs with ⟨g, g1, g3, rfl⟩ | ⟨g, g1, g3, hg⟩
    · left
      have no := Geo.within G (by omega) g1 g3 f0 f1 fe fde
      have nx := next_of hn g1 g3 fe no
      rw [he1] at nx
      rw [← ett, ey, nx]
    · right
      have fde' : f (stepC (stepC A (ee : Int) 1) ((ee + g) % 8 : Nat) 1) = true := by
        rw [← hg, ← step_comm8 (by omega) (by omega) e0 e7]
        exact fde
      have no := Geo.within G (by omega) g1 g3 f0 fe (by rw [← hg]; exact f1) fde'
      have me : (ee : Int) ∈ sidesF f A 8 := sidesF_mem.mpr ⟨ee, by omega, rfl, fe⟩
      obtain ⟨m, hm, -⟩ := first_ix me
      have hml : m < (sidesF f A 8).length := (List.getElem?_eq_some_iff.mp hm).1
      have nx := next_of hm g1 g3 (by rw [← hg]; exact f1) no
      have h1 : (sidesF f A 8)[(m + 1) % (sidesF f A 8).length]? = some (nn : Int) := by
        rw [hg, ← nx, List.getD_eq_getElem?_getD, List.getElem?_eq_getElem (Nat.mod_lt _ (by omega))]
        rfl
      have en := ix_one nd hn h1
      have em : m = (n + (sidesF f A 8).length - 1) % (sidesF f A 8).length := by
        rcases Nat.lt_or_ge (m + 1) (sidesF f A 8).length with q | q
        · rw [Nat.mod_eq_of_lt q] at en
          rw [en, show m + 1 + (sidesF f A 8).length - 1 = m + (sidesF f A 8).length by omega, Nat.add_mod_right, Nat.mod_eq_of_lt hml]
        · have : m + 1 = (sidesF f A 8).length := by omega
          rw [this, Nat.mod_self] at en
          rw [en, Nat.zero_add, Nat.mod_eq_of_lt (by omega)]
          omega
      rw [← em, hm] at he2
      rw [← ett, ew, Option.some.inj he2]
  have nn' : ∀ {n' : Nat}, (sidesF f A 8)[n']? = some d2 → n' = n := fun h => ix_one nd h hn
  rcases tyw with rfl | rfl
  · -- the tile is the first of the two
    have xw : x = w := by
      rcases hx with ⟨h1, _⟩ | ⟨_, h2⟩
      · exact absurd rfl h1
      · rw [hw] at h2
        exact (Option.some.inj h2).symm
    subst xw
    refine ⟨okw.1, okw.2.1, okw.2.2.1, okw.2.2.2.1, fun z => nyw z.symm, okw.2.2.2.2, ⟨d2, e2, a0, a7, c0, c7, by rw [ew]; rfl⟩, fun k' z h1 h2 h3 => ?_⟩
    obtain ⟨n', y', g1, g2, g3⟩ := back k' z h1 h2 h3
    rw [nn' g1, hy] at g2
    cases g2
    rcases g3 with ⟨_, h⟩ | ⟨h, _⟩
    · exact h
    · exact absurd h nyw
  · have xy : x = y := by
      rcases hx with ⟨_, h2⟩ | ⟨h1, _⟩
      · exact h2
      · exact absurd h1 nyw
    subst xy
    refine ⟨oky.1, oky.2.1, oky.2.2.1, oky.2.2.2.1, nyw, oky.2.2.2.2, ⟨d2, e1, a0, a7, b0, b7, by rw [ey]; rfl⟩, fun k' z h1 h2 h3 => ?_⟩
    obtain ⟨n', y', g1, g2, g3⟩ := back k' z h1 h2 h3
    rw [nn' g1] at g2 g3
    rw [hy] at g2
    cases g2
    rcases g3 with ⟨h, _⟩ | ⟨_, h⟩
    · exact absurd rfl h
    · rw [hw] at h
      exact (Option.some.inj h).symm
theorem plain_fl {H : Hp} {v : V} (h : Plain H v) : flatV v = true ∨ ∃ p, v = .ref p := by
  cases h with
  | non => exact .inl rfl
  | bl b => exact .inl rfl
  | int i => exact .inl rfl
  | str s => exact .inl rfl
  | lst a xs e => exact .inr ⟨a, rfl⟩
  | tup a xs e => exact .inr ⟨a, rfl⟩
  | dK a xs e => exact .inr ⟨a, rfl⟩
theorem bad_fl {Z : Zs} {H : Hp} {v : V} (h : BadCor Z H v) : flatV v = true ∨ ∃ p, v = .ref p := by
  rcases h with ⟨p, _⟩ | ⟨p, xs, rfl, _⟩
  · exact plain_fl p
  · exact .inr ⟨p, rfl⟩
theorem k_eqSame {K : PySem.W.Frag} {H : Hp} {Q : VK} {s : Str} {u v : Addr} {x : V} {d : PyData} (hu : H u = some (.tup [.str s, x])) (hv : H v = some (.tup [.str s, x])) (ls : PyData.canLay0 (.str s) = true) (dx : Dp K H x d) (ly : d.canLay0 = true) (de : d.depth ≤ 10) (q : Q (.bl true) H) : rEqD K (.ref u) (.ref v) H Q := by
  have l2 : PyData.canLay0 (.tuple [.str s, d]) = true := by
    simp only [PyData.canLay0] at ls
    simp only [PyData.canLay0, PyData.canLayAll0, ly, ls, Bool.and_self]
  have sh : SeqAt.shaped (.tuple [.str s, d]) = true := by
    unfold SeqAt.shaped
    rw [l2, Bool.true_and]
    simp only [PyData.depth, PyData.depthAll]
    exact decide_eq_true (by omega)
  refine ⟨_, _, .tup (SqT.of hu) (.cons (.str _) (.cons dx .nil)), .tup (SqT.of hv) (.cons (.str _) (.cons dx .nil)), sh, sh, ?_⟩
  rw [SeqAt.eqv_refl _ l2]
  exact q
/-- (word, thing) != (word, thing), the same thing -/
theorem k_nePair {K : PySem.W.Frag} {H : Hp} {Q : VK} {s : Str} {u v : Addr} {x : V} (hu : H u = some (.tup [.str s, x])) (hv : H v = some (.tup [.str s, x])) (fl : flatV x = true ∨ ∃ p, x = .ref p) (q : Q (.bl false) H) : rNeSame K (.ref u) (.ref v) H Q := by
  refine ⟨u, v, _, rfl, rfl, .inr ⟨SqT.of hu, SqT.of hv⟩, fun z hz => ?_, q⟩
  rcases List.mem_cons.mp hz with rfl | hz
  · exact .inl rfl
  · obtain rfl := List.mem_singleton.mp hz
    exact fl
abbrev s__law_is_tile : Stmt := top 68
theorem sc__law_is_tile : FnScope ["thing", "part"] ["thing"] (defScope s__law_is_tile) := ⟨rfl, rfl, rfl, by decide +kernel, rfl, by decide +kernel, by decide +kernel⟩

def sp__law_is_tile (Z : Zs) : Sp := fun vs H Q E =>
  ∃ v c i j, vs = [v] ∧ TileAt H v c i j ∧ 0 ≤ i ∧ i < j ∧ j ≤ 3 ∧ ∀ H', Same H H' → Q (.bl true) H'
theorem ok__law_is_tile (T : Txt Z mg) (h__law_is_corner : Has P w Z.K mg base "_law_is_corner" 1 ["thing"] (sp__law_is_corner Z)) (D : AtF Z.K mg "_law_is_tile" "_law_is_tile" s__law_is_tile ["thing"]) : Has P w Z.K mg base "_law_is_tile" 2 ["thing"] (sp__law_is_tile Z) := by
  refine D.ok sc__law_is_tile (fun vs H Q E h => ?_) (fun cdv A outer s H vs Q E hr h => ?_)
  · obtain ⟨v, c, i, j, rfl, _⟩ := h
    rfl
  · refine ⟨_, (pss_cons (ps_if (PW.pt (pw_or (pt_not (pt_val (pe_callB call_isi rfl T.n_isinstance (by decide +kernel) (pa_cons (pv 0) (pa_cons (pe_bltn (v := .ty "tuple") rfl T.n_tuple (by decide +kernel) rfl) pa_nil))))) (pw_or (pt_cmpR op_ne (pe_callB cn_len rfl T.n_len (by decide +kernel) (pa_cons (pv 0) pa_nil)) pe_int (nomark _)) (pw_or1 (pt_not (pt_val (pe_h (E := ED E) h__law_is_corner hr (paW (takes_of rfl rfl rfl rfl)) (pa_cons (pe_ix ix_seq (pv 0) pe_int (fun _ _ => rfl)) pa_nil)))))))) (pss_one (ps_ret pe_bl)) pss_nil)
      (pss_cons (ps_for (passes_of rfl) rfl (pi_tup (pe_slice sl_tupA (pv 0) (po_some pe_int) po_none)) (pg_name (i := 1) sc__law_is_tile.nd rfl (Or.inl rfl)) (pss_one (ps_if (PW.pt (pw_or (pt_not (pt_val (pe_callB call_isi rfl T.n_isinstance (by decide +kernel) (pa_cons (pv 1) (pa_cons (pe_bltn (v := .ty "int") rfl T.n_int (by decide +kernel) rfl) pa_nil))))) (pw_or1 (pt_val (pe_callB call_isi rfl T.n_isinstance (by decide +kernel) (pa_cons (pv 1) (pa_cons (pe_bltn (v := .ty "bool") rfl T.n_bool (by decide +kernel) rfl) pa_nil))))))) (pss_one (ps_ret pe_bl)) pss_nil)))
      (pss_one (ps_ret (pe_chain3 op_le op_lt op_le pe_int (pe_ix ix_seq (pv 0) pe_int (fun _ _ => rfl)) (pe_ix ix_seq (pv 0) pe_int (fun _ _ => rfl)) pe_int))))), ?_⟩
    try simp only [cxOf]
    obtain ⟨v, c, i, j, rfl, ht, i0, ij, j3, q⟩ := h
    obtain ⟨p, x, rfl, hp, hc⟩ := id ht
    obtain ⟨ty, hty, _, _, k⟩ := (Plain.tup p _ hp).ty (K := Z.K)
    rw [isTu_tup hp] at k
    walk_at "W"
    refine w_isi hty k ?_
    walk_at "W"
    refine w_lenT (SqT.of hp) ?_
    walk_at "W"
    refine ⟨x, c, rfl, hc, ?_⟩
    walk_at "W"
    refine k_slA hp fun t H1 s1 e1 => ?_
    rw [show (some (1 : Int)) = some ((1 : Nat) : Int) from rfl, cutV_tail] at e1
    have e1 : H1 t = some (.tup [.int i, .int j]) := e1
    have hp1 := s1 _ _ hp
    refine k_forT (xs := [.int i, .int j]) (fun k σ' H' => H' = H1 ∧ ∃ z, σ' = [some (.ref p), z]) e1 ⟨rfl, none, rfl⟩ (fun k σ H h => h.1 ▸ e1) ?_ ?_
    · rintro k x σ' H' hx ⟨rfl, z, rfl⟩
      obtain ⟨n, rfl⟩ : ∃ n, x = V.int n := by
        rcases k with _ | _ | k
        · cases hx; exact ⟨_, rfl⟩
        · cases hx; exact ⟨_, rfl⟩
        · simp at hx
      obtain ⟨ty, hty, k1, k2, _⟩ := (Plain.int (H := H') n).ty (K := Z.K)
      walk_at "W"
      refine w_isi hty k1 ?_
      walk_at "W"
      refine w_isi hty k2 ?_
      walk_at "W"
      exact ⟨rfl, _, rfl⟩
    · rintro σ' H' ⟨rfl, z, rfl⟩
      walk_at "W"
      rw [decide_eq_true i0]
      walk_at "W"
      rw [decide_eq_true ij]
      walk_at "W"
      rw [decide_eq_true j3]
      exact q _ s1
abbrev s__law_side_ends : Stmt := top 69
theorem sc__law_side_ends : FnScope ["tile", "side", "ends"] ["tile", "side"] (defScope s__law_side_ends) := ⟨rfl, rfl, rfl, by decide +kernel, rfl, by decide +kernel, by decide +kernel⟩

def sp__law_side_ends (Z : Zs) : Sp := fun vs H Q E =>
  ∃ v c i j k, vs = [v, .int k] ∧ TileAt H v c i j ∧ 0 ≤ i ∧ i < j ∧ j ≤ 3 ∧ 0 ≤ k ∧ k ≤ 3 ∧ ∀ u p q H', H u = none → Same H H' → H' u = some (.lst [p, q]) → CorAt H' p (startK c i j k) → CorAt H' q (stepC (startK c i j k) (dirK i j k) 1) → Q (.ref u) H'
theorem ok__law_side_ends (T : Txt Z mg) (h__law_ends : Has P w Z.K mg base "_law_ends" 2 ["tile"] (sp__law_ends Z)) (D : AtF Z.K mg "_law_side_ends" "_law_side_ends" s__law_side_ends ["tile", "side"]) : Has P w Z.K mg base "_law_side_ends" 3 ["tile", "side"] (sp__law_side_ends Z) := by
  refine D.ok sc__law_side_ends (fun vs H Q E h => ?_) (fun cdv A outer s H vs Q E hr h => ?_)
  · obtain ⟨v, c, i, j, k, rfl, _⟩ := h
    rfl
  · refine ⟨_, (pss_cons (ps_set (i := 2) sc__law_side_ends.nd rfl (Or.inl rfl) (pe_h (E := ED E) h__law_ends hr (paW (takes_of rfl rfl rfl rfl)) (pa_cons (pv 0) pa_nil)))
      (pss_one (ps_ret (pe_ix ix_seq (pe_lst (pa_cons (pe_lst (pa_cons (pe_ix ix_seq (pv 2) pe_int (fun _ _ => rfl)) (pa_cons (pe_ix ix_seq (pv 2) pe_int (fun _ _ => rfl)) pa_nil))) (pa_cons (pe_lst (pa_cons (pe_ix ix_seq (pv 2) pe_int (fun _ _ => rfl)) (pa_cons (pe_ix ix_seq (pv 2) pe_int (fun _ _ => rfl)) pa_nil))) (pa_cons (pe_lst (pa_cons (pe_ix ix_seq (pv 2) pe_int (fun _ _ => rfl)) (pa_cons (pe_ix ix_seq (pv 2) pe_int (fun _ _ => rfl)) pa_nil))) (pa_cons (pe_lst (pa_cons (pe_ix ix_seq (pv 2) pe_int (fun _ _ => rfl)) (pa_cons (pe_ix ix_seq (pv 2) pe_int (fun _ _ => rfl)) pa_nil))) pa_nil))))) (pv 1) (fun _ _ => rfl))))), ?_⟩
    try simp only [cxOf]
    obtain ⟨v, c, i, j, k, rfl, ht, i0, ij, j3, k0, k3, q⟩ := h
    walk_at "W"
    refine ⟨v, c, i, j, rfl, ht, i0, by omega, by omega, j3, fun u ws H1 hu s1 e1 cs => ?_⟩
    obtain ⟨v0, v1, v2, v3, rfl⟩ : ∃ v0 v1 v2 v3, ws = [v0, v1, v2, v3] := by
      match ws, cs.len with
      | [a, b, c, d], _ => exact ⟨a, b, c, d, rfl⟩
    obtain ⟨c0, c1, c2, c3, -⟩ := cs
    walk_at "W"
    refine k_lst rfl fun l1 H2 hl1 s2 f1 => ?_
    have e2 := s2 _ _ e1
    walk_at "W"
    refine k_lst rfl fun l2 H3 hl2 s3 f2 => ?_
    have e3 := s3 _ _ e2
    walk_at "W"
    refine k_lst rfl fun l3 H4 hl3 s4 f3 => ?_
    have e4 := s4 _ _ e3
    walk_at "W"
    refine k_lst rfl fun l4 H5 hl4 s5 f4 => ?_
    walk_at "W"
    refine k_lst rfl fun l5 H6 hl5 s6 f5 => ?_
    walk_at "W"
    have hk : k = 0 ∨ k = 1 ∨ k = 2 ∨ k = 3 := by omega
    have S36 := s4.trans (s5.trans s6)
    have S26 := s3.trans S36
    have S6 := s2.trans S26
    have nw : ∀ {l : Addr} {HH : Hp}, Same H HH → HH l = none → H l = none := fun s h => s.free h
    rcases hk with rfl | rfl | rfl | rfl
    · exact w_ixL f5 rfl (q l1 v0 v1 H6 (nw s1 hl1) (s1.trans S6) (S26 _ _ f1) (c0.same S6) (c1.same S6))
    · exact w_ixL f5 rfl (q l2 v1 v3 H6 (nw (s1.trans s2) hl2) (s1.trans S6) (S36 _ _ f2) (c1.same S6) (c3.same S6))
    · refine w_ixL f5 rfl (q l3 v2 v3 H6 (nw (s1.trans (s2.trans s3)) hl3) (s1.trans S6) ((s5.trans s6) _ _ f3) (c2.same S6) ?_)
      have : stepC (startK c i j 2) (dirK i j 2) 1 = stepC (stepC c i 1) j 1 := (step_comm i0 (by omega) (by omega) j3).symm
      rw [this]
      exact c3.same S6
    · exact w_ixL f5 rfl (q l4 v0 v2 H6 (nw (s1.trans (s2.trans (s3.trans s4))) hl4) (s1.trans S6) (s6 _ _ f4) (c0.same S6) (c2.same S6))
theorem CsAt.two {H : Hp} {p q : V} {c d : C4} (h1 : CorAt H p c) (h2 : CorAt H q d) : CsAt H [p, q] [c, d] := ⟨h1, h2, trivial⟩
theorem cors_shapedL (cs : List C4) : SeqAt.shaped (.list (cs.map corD)) = true := by
  have h1 : ∀ r : List C4, PyData.canLayAll0 (r.map corD) = true := fun r => by
    induction r with
    | nil => rfl
    | cons c r ih =>
      show PyData.canLayAll0 (corD c :: r.map corD) = true
      rw [PyData.canLayAll0, ih]
      rfl
  have h2 : ∀ r : List C4, PyData.depthAll (r.map corD) ≤ 2 := fun r => by
    induction r with
    | nil => exact Nat.zero_le _
    | cons c r ih =>
      have : (corD c).depth ≤ 1 := Nat.le_of_ble_eq_true rfl
      show PyData.depthAll (corD c :: r.map corD) ≤ 2
      rw [PyData.depthAll]
      omega
  unfold SeqAt.shaped
  rw [PyData.canLay0, h1, Bool.true_and, PyData.depth]
  have := h2 cs
  exact decide_eq_true (by omega)
theorem eqv_cors : ∀ cs ds : List C4, PyData.eqvAll (cs.map corD) (ds.map corD) = decide (cs = ds)
  | [], [] => rfl
  | [], _ :: _ => rfl
  | _ :: _, [] => rfl
  | c :: cs, d :: ds => by
    rw [List.map_cons, List.map_cons, PyData.eqvAll, cor_eqv, eqv_cors cs ds, Bool.eq_iff_iff]
    simp
theorem w_eqCL {K : PySem.W.Frag} {H : Hp} {Q : VK} {a b : Addr} {vs ws : List V} {cs ds : List C4} (h1 : H a = some (.lst vs)) (h2 : H b = some (.lst ws)) (c1 : CsAt H vs cs) (c2 : CsAt H ws ds) (q : Q (.bl (decide (cs = ds))) H) : rEqD K (.ref a) (.ref b) H Q := by
  refine ⟨_, _, .lst (SqL.of h1) c1.dp, .lst (SqL.of h2) c2.dp, cors_shapedL _, cors_shapedL _, ?_⟩
  rw [PyData.eqv, eqv_cors]
  exact q
/-- the same ends: the same start, the same direction -/
theorem ends_eq {c d : C4} {i j k i' j' k' : Int} (i0 : 0 ≤ i) (ij : i < j) (j3 : j ≤ 3) (i0' : 0 ≤ i') (ij' : i' < j') (j3' : j' ≤ 3) : [startK d i' j' k', stepC (startK d i' j' k') (dirK i' j' k') 1] = [startK c i j k, stepC (startK c i j k) (dirK i j k) 1] ↔ startK d i' j' k' = startK c i j k ∧ dirK i' j' k' = dirK i j k := by
  have dd : ∀ {i j k : Int}, 0 ≤ i → i < j → j ≤ 3 → 0 ≤ dirK i j k ∧ dirK i j k ≤ 3 := fun h1 h2 h3 => by
    unfold dirK
    split
    · omega
    split
    · omega
    split <;> omega
  have d1 := dd (k := k) i0 ij j3
  have d2 := dd (k := k') i0' ij' j3'
  constructor
  · intro h
    injection h with h1 h2
    injection h2 with h2 _
    rw [h1] at h2
    refine ⟨h1, ?_⟩
    generalize startK c i j k = A at *
    generalize dirK i j k = x at *
    generalize dirK i' j' k' = y at *
    have hx : x = 0 ∨ x = 1 ∨ x = 2 ∨ x = 3 := by omega
    have hy : y = 0 ∨ y = 1 ∨ y = 2 ∨ y = 3 := by omega
    rcases hx with rfl | rfl | rfl | rfl <;> rcases hy with rfl | rfl | rfl | rfl <;> first | rfl | (exfalso; simp [stepC, C4.plus] at h2; done) | (exfalso; simp [stepC, C4.plus] at h2; omega)
  · rintro ⟨h1, h2⟩
    rw [h1, h2]
theorem w_app {l : Addr} {y : V} {xs : List V} {H : Hp} {Q : VK} (h : H l = some (.lst xs)) (hl : xs.length < sizeLine) (q : ∀ H2, SameX l H H2 → Kpt H H2 → H2 l = some (.lst (xs ++ [y])) → Q .non H2) : rAppend (.ref l) [y] H Q :=
  ⟨l, xs, y, rfl, rfl, h, hl, q _ (SameX.upd fun _ _ _ e => e) (Kpt.updL h) upd_same⟩
theorem few_lt {n : Nat} (h : n ≤ 83521) : n < sizeLine := by
  rw [sizeLine_eq]
  omega
def vsI (c : C4) : List Int := [c.a, c.b, c.c, c.d]
def ltC (o c : C4) : Bool := HT.lexLt (vsI o) (vsI c)
theorem dataLt_cor (o c : C4) : PySem.W.dataLt (corD o) (corD c) = ltC o c := by
  have k : ∀ (x y : Int) (xs ys : List PyData), PyProof.Rows.lexLt PyProof.Rows.itemOrd (PySem.W.keyToksAll (.int x :: xs)) (PySem.W.keyToksAll (.int y :: ys)) = if x = y then PyProof.Rows.lexLt PyProof.Rows.itemOrd (PySem.W.keyToksAll xs) (PySem.W.keyToksAll ys) else decide (x < y) := fun x y xs ys => by
    rw [PySem.W.dataLt_cons (by rfl), PySem.W.dataLt_int]
    by_cases h : x = y
    · subst h
      rw [if_pos rfl, if_pos (by simp [PyData.eqv])]
    · rw [if_neg h, if_neg (by simp [PyData.eqv, h])]
  have e : PyProof.Rows.lexLt PyProof.Rows.itemOrd (PySem.W.keyToksAll []) (PySem.W.keyToksAll []) = false := rfl
  unfold corD
  rw [PySem.W.dataLt_tuple, k, k, k, k, e]
  rfl
theorem leC_eq (c o : C4) : PySem.W.dataLe false corD c o = !ltC o c := by
  rw [← dataLt_cor]
  rfl
theorem leC_tot : PySem.W.TotalLe (PySem.W.dataLe false corD) := PySem.W.sortLe_total _ false _
theorem leC_anti (x y : C4) (h1 : PySem.W.dataLe false corD x y = true) (h2 : PySem.W.dataLe false corD y x = true) : x = y := by
  rw [leC_eq, Bool.not_eq_true'] at h1 h2
  obtain ⟨a, b, c, d⟩ := x
  obtain ⟨a', b', c', d'⟩ := y
  unfold ltC vsI at h1 h2
  simp only [HT.lexLt] at h1 h2
  have ea : a = a' := by
    by_cases h : a = a'
    · exact h
    · rw [if_neg (fun z => h z.symm)] at h1
      rw [if_neg h] at h2
      have := of_decide_eq_false h1
      have := of_decide_eq_false h2
      omega
  subst ea
  rw [if_pos rfl] at h1 h2
  have eb : b = b' := by
    by_cases h : b = b'
    · exact h
    · rw [if_neg (fun z => h z.symm)] at h1
      rw [if_neg h] at h2
      have := of_decide_eq_false h1
      have := of_decide_eq_false h2
      omega
  subst eb
  rw [if_pos rfl] at h1 h2
  have ec : c = c' := by
    by_cases h : c = c'
    · exact h
    · rw [if_neg (fun z => h z.symm)] at h1
      rw [if_neg h] at h2
      have := of_decide_eq_false h1
      have := of_decide_eq_false h2
      omega
  subst ec
  rw [if_pos rfl] at h1 h2
  have ed : d = d' := by
    by_cases h : d = d'
    · exact h
    · rw [if_neg (fun z => h z.symm)] at h1
      rw [if_neg h] at h2
      have := of_decide_eq_false h1
      have := of_decide_eq_false h2
      omega
  rw [ed]
theorem sortC_of {cs ds : List C4} (p : cs.Perm ds) (h : cs.Pairwise fun x y => PySem.W.dataLe false corD x y = true) : cs = sortC ds :=
  PySem.W.Srt.the_of_perm _ leC_tot.trans (fun x y => by rw [Bool.or_eq_true]; exact leC_tot.total x y) leC_anti p h
theorem leC_sorted (cs : List C4) : (sortC cs).Pairwise fun x y => PySem.W.dataLe false corD x y = true :=
  List.pairwise_mergeSort (fun a b c => leC_tot.trans a b c) (fun a b => by rw [Bool.or_eq_true]; exact leC_tot.total a b) cs
theorem sortC_perm_eq {cs ds : List C4} (p : cs.Perm ds) : sortC cs = sortC ds := sortC_of ((sortC_perm cs).trans p) (leC_sorted cs)
theorem TsAt.dp {K : PySem.W.Frag} {H : Hp} : ∀ {vs : List V} {ts : List (C4 × Int × Int)}, TsAt H vs ts → DpAll K H vs (ts.map tlD3)
  | [], [], _ => .nil
  | _ :: _, _ :: _, h => .cons (tile_dp3 h.1) (TsAt.dp h.2)
  | [], _ :: _, h => h.elim
  | _ :: _, [], h => h.elim
theorem tls_shaped3 (ts : List (C4 × Int × Int)) : SeqAt.shaped (.list (ts.map tlD3)) = true := by
  have h1 : ∀ r : List (C4 × Int × Int), PyData.canLayAll0 (r.map tlD3) = true := fun r => by
    induction r with
    | nil => rfl
    | cons c r ih =>
      show PyData.canLayAll0 (tlD3 c :: r.map tlD3) = true
      rw [PyData.canLayAll0, ih]
      rfl
  have h2 : ∀ r : List (C4 × Int × Int), PyData.depthAll (r.map tlD3) ≤ 3 := fun r => by
    induction r with
    | nil => exact Nat.zero_le _
    | cons c r ih =>
      have : (tlD3 c).depth ≤ 2 := Nat.le_of_ble_eq_true rfl
      show PyData.depthAll (tlD3 c :: r.map tlD3) ≤ 3
      rw [PyData.depthAll]
      omega
  unfold SeqAt.shaped
  rw [PyData.canLay0, h1, Bool.true_and, PyData.depth]
  have := h2 ts
  exact decide_eq_true (by omega)
theorem any_cor {c : C4} : ∀ {cs : List C4}, c ∈ cs → ((cs.map corD).any fun z => PyData.eqv z (corD c)) = true
  | a :: cs, h => by
    rw [List.map_cons, List.any_cons, cor_eqv]
    rcases List.mem_cons.mp h with rfl | h
    · simp
    · rw [any_cor h]
      simp

theorem any_corD {c : C4} : ∀ {cs : List C4}, ((cs.map corD).any fun z => PyData.eqv z (corD c)) = decide (c ∈ cs)
  | [] => by simp
  | a :: cs => by
    rw [List.map_cons, List.any_cons, cor_eqv, any_corD, Bool.eq_iff_iff]
    simp only [Bool.or_eq_true, decide_eq_true_eq, List.mem_cons]
    exact ⟨fun h => h.elim (fun e => .inl e.symm) .inr, fun h => h.elim (fun e => .inl e.symm) .inr⟩
theorem any_tlD {t : C4 × Int × Int} : ∀ {ts : List (C4 × Int × Int)}, ((ts.map tlD3).any fun z => PyData.eqv z (tlD3 t)) = decide (t ∈ ts)
  | [] => by simp
  | a :: ts => by
    rw [List.map_cons, List.any_cons, tl_eqv, any_tlD, Bool.eq_iff_iff]
    simp only [Bool.or_eq_true, decide_eq_true_eq, List.mem_cons]
    exact ⟨fun h => h.elim (fun e => .inl e.symm) .inr, fun h => h.elim (fun e => .inl e.symm) .inr⟩
theorem cor_shapedD (c : C4) : SeqAt.shaped (corD c) = true := by
  unfold SeqAt.shaped corD
  rfl
theorem tls_shapedT (ts : List (C4 × Int × Int)) : SeqAt.shaped (.tuple (ts.map tlD3)) = true := by
  have h := tls_shaped3 ts
  unfold SeqAt.shaped at h ⊢
  rw [PyData.canLay0, PyData.depth] at h
  rw [PyData.canLay0, PyData.depth]
  exact h
/-! x in t, x not in t: a tuple of data -/
def rInDT (K : PySem.W.Frag) : R2 := fun x y H Q => ∃ d ds, Dp K H x d ∧ Dp K H y (.tuple ds) ∧ SeqAt.shaped d = true ∧ SeqAt.shaped (.tuple ds) = true ∧ Q (.bl (ds.any fun z => PyData.eqv z d)) H
def rNotInDT (K : PySem.W.Frag) : R2 := fun x y H Q => ∃ d ds, Dp K H x d ∧ Dp K H y (.tuple ds) ∧ SeqAt.shaped d = true ∧ SeqAt.shaped (.tuple ds) = true ∧ Q (.bl (!ds.any fun z => PyData.eqv z d)) H
theorem op_inDT {X : Cx} (hu : X.A.units + 65 < cLine) : OpR X (compareOp .In) (rInDT X.K) := by
  intro pins s σ H x y v u Q I rx ry h
  obtain ⟨d, ds, hd, he, sd, se, q⟩ := h
  obtain ⟨as, r1⟩ := Dp.reads I d x v hd rx
  obtain ⟨bs, r2⟩ := Dp.reads I (.tuple ds) y u he ry
  exact SeqAt.in_tuple_reads r2 r1 (SeqAt.canLay_of_shaped se) (SeqAt.canLay_of_shaped sd) (room_in_shaped sd hu) ⟨.bl _, H, I, rfl, q⟩
theorem op_notInDT {X : Cx} (hu : X.A.units + 65 < cLine) : OpR X (compareOp .NotIn) (rNotInDT X.K) := by
  intro pins s σ H x y v u Q I rx ry h
  obtain ⟨d, ds, hd, he, sd, se, q⟩ := h
  obtain ⟨as, r1⟩ := Dp.reads I d x v hd rx
  obtain ⟨bs, r2⟩ := Dp.reads I (.tuple ds) y u he ry
  exact SeqAt.notIn_tuple_reads r2 r1 (SeqAt.canLay_of_shaped se) (SeqAt.canLay_of_shaped sd) (room_in_shaped sd hu) ⟨.bl _, H, I, rfl, q⟩
/-! with the fragment told, for a comprehension -/
theorem op_inDZ {X : Cx} {K : PySem.W.Frag} (h : X.K = K) (hu : X.A.units + 65 < cLine) : OpR X (compareOp .In) (rInD K) := h ▸ op_inD hu
theorem op_inDTZ {X : Cx} {K : PySem.W.Frag} (h : X.K = K) (hu : X.A.units + 65 < cLine) : OpR X (compareOp .In) (rInDT K) := h ▸ op_inDT hu
-- needs W24
/-! the tiles about a corner, once round -/
theorem about_tile {f : C4 → Bool} (G : GeoF f) {c : C4} (f0 : f c = true) {d e : Int} (d0 : 0 ≤ d) (d7 : d ≤ 7) (e0 : 0 ≤ e) (e7 : e ≤ 7) (ne : d % 4 ≠ e % 4) (f1 : f (stepC c d 1) = true) (fe : f (stepC c e 1) = true) (fde : f (stepC (stepC c d 1) e 1) = true) :
    ∃ m, (sidesF f c 8)[m]? = some d ∧ (sidesF f c 8).getD ((m + 1) % (sidesF f c 8).length) 0 = e ∨ (sidesF f c 8)[m]? = some e ∧ (sidesF f c 8).getD ((m + 1) % (sidesF f c 8).length) 0 = d := by
  obtain ⟨nn, rfl⟩ : ∃ nn : Nat, d = (nn : Int) := ⟨d.toNat, by omega⟩
  obtain ⟨ee, rfl⟩ : ∃ ee : Nat, e = (ee : Int) := ⟨e.toNat, by omega⟩
  have h1 : nn < 8 := by omega
  have h2 : ee < 8 := by omega
  have cs : (∃ g : Nat, 1 ≤ g ∧ g ≤ 3 ∧ ee = (nn + g) % 8) ∨ ∃ g : Nat, 1 ≤ g ∧ g ≤ 3 ∧ nn = (ee + g) % 8 := by
    have : (ee + 8 - nn) % 8 = 1 ∨ (ee + 8 - nn) % 8 = 2 ∨ (ee + 8 - nn) % 8 = 3 ∨ (ee + 8 - nn) % 8 = 5 ∨ (ee + 8 - nn) % 8 = 6 ∨ (ee + 8 - nn) % 8 = 7 := by omega
    rcases this with h | h | h | h | h | h
    · exact .inl ⟨1, by omega, by omega, by omega⟩
    · exact .inl ⟨2, by omega, by omega, by omega⟩
    · exact .inl ⟨3, by omega, by omega, by omega⟩
    · exact .inr ⟨3, by omega, by omega, by omega⟩
    · exact .inr ⟨2, by omega, by omega, by omega⟩
    · exact .inr ⟨1, by omega, by omega, by omega⟩
  rcases cs with ⟨g, g1, g3, rfl⟩ | ⟨g, g1, g3, hg⟩
  · have no := Geo.within G h1 g1 g3 f0 f1 fe fde
    have md : (nn : Int) ∈ sidesF f c 8 := sidesF_mem.mpr ⟨nn, h1, rfl, f1⟩
    obtain ⟨m, hm, -⟩ := first_ix md
    exact ⟨m, .inl ⟨hm, next_of hm g1 g3 fe no⟩⟩
  · have fde' : f (stepC (stepC c (ee : Int) 1) ((ee + g) % 8 : Nat) 1) = true := by
      rw [← hg, ← step_comm8 (by omega) (by omega) e0 e7]
      exact fde
    have no := Geo.within G h2 g1 g3 f0 fe (by rw [← hg]; exact f1) fde'
    have me : (ee : Int) ∈ sidesF f c 8 := sidesF_mem.mpr ⟨ee, by omega, rfl, fe⟩
    obtain ⟨m, hm, -⟩ := first_ix me
    refine ⟨m, .inr ⟨hm, ?_⟩⟩
    rw [next_of hm g1 g3 (by rw [← hg]; exact f1) no, ← hg]
/-- a side at a corner: its start and direction -/
def edgeA (c : C4) (d : Int) : C4 := if d ≤ 3 then c else stepC c d 1
def edgeD (d : Int) : Int := d % 4
def sideOf (t : C4 × Int × Int) (k : Int) : C4 × Int := (startK t.1 t.2.1 t.2.2 k, dirK t.2.1 t.2.2 k)
/-- the sides of a tile that have the corner -/
def sidesOf (t : C4 × Int × Int) (c : C4) : List Int := ((List.range 4).map Int.ofNat).filter fun k => decide (c = startK t.1 t.2.1 t.2.2 k) || decide (c = stepC (startK t.1 t.2.1 t.2.2 k) (dirK t.2.1 t.2.2 k) 1)
def O4 : C4 := ⟨0, 0, 0, 0⟩
theorem sides_of0 : ∀ d e : Fin 8, ((d.val : Int) % 4 ≠ (e.val : Int) % 4) → ∃ k1 k2 : Fin 4, sidesOf (betT O4 (d.val : Int) (e.val : Int)) O4 = [(k1.val : Int), (k2.val : Int)] ∧
    (startK (betC O4 (d.val : Int) (e.val : Int)) (lowD d.val e.val) (hiD d.val e.val) k1.val = edgeA O4 d.val ∧ dirK (lowD d.val e.val) (hiD d.val e.val) k1.val = edgeD d.val ∧ startK (betC O4 (d.val : Int) (e.val : Int)) (lowD d.val e.val) (hiD d.val e.val) k2.val = edgeA O4 e.val ∧ dirK (lowD d.val e.val) (hiD d.val e.val) k2.val = edgeD e.val ∨
     startK (betC O4 (d.val : Int) (e.val : Int)) (lowD d.val e.val) (hiD d.val e.val) k1.val = edgeA O4 e.val ∧ dirK (lowD d.val e.val) (hiD d.val e.val) k1.val = edgeD e.val ∧ startK (betC O4 (d.val : Int) (e.val : Int)) (lowD d.val e.val) (hiD d.val e.val) k2.val = edgeA O4 d.val ∧ dirK (lowD d.val e.val) (hiD d.val e.val) k2.val = edgeD d.val) := by decide +kernel
theorem sides_rest0 : ∀ d e : Fin 8, ((d.val : Int) % 4 ≠ (e.val : Int) % 4) → ∀ k : Fin 4, startK (betC O4 (d.val : Int) (e.val : Int)) (lowD d.val e.val) (hiD d.val e.val) k.val = edgeA O4 d.val → dirK (lowD d.val e.val) (hiD d.val e.val) k.val = edgeD d.val →
    ∃ k' : Fin 4, ((sidesOf (betT O4 (d.val : Int) (e.val : Int)) O4).filter fun x => decide (x ≠ (k.val : Int))) = [(k'.val : Int)] ∧ startK (betC O4 (d.val : Int) (e.val : Int)) (lowD d.val e.val) (hiD d.val e.val) k'.val = edgeA O4 e.val ∧ dirK (lowD d.val e.val) (hiD d.val e.val) k'.val = edgeD e.val := by decide +kernel
theorem sh_O4 (c : C4) : shC c O4 = c := sh_zero
theorem dirK_in {i j k : Int} (i0 : 0 ≤ i) (i3 : i ≤ 3) (j0 : 0 ≤ j) (j3 : j ≤ 3) : 0 ≤ dirK i j k ∧ dirK i j k ≤ 3 := by
  unfold dirK
  split
  · omega
  split
  · omega
  split <;> omega
theorem edge_sh {c : C4} {d : Int} (d0 : 0 ≤ d) (d7 : d ≤ 7) : edgeA c d = shC c (edgeA O4 d) := by
  unfold edgeA
  split
  · rw [sh_O4]
  · rw [← step_sh d0 d7, sh_O4]
theorem betC_O4 {c : C4} {d e : Int} (d0 : 0 ≤ d) (d7 : d ≤ 7) (e0 : 0 ≤ e) (e7 : e ≤ 7) : betC c d e = shC c (betC O4 d e) := by
  rw [← bet_sh d0 d7 e0 e7, sh_O4]
theorem start_O4 {c : C4} {d e k : Int} (d0 : 0 ≤ d) (d7 : d ≤ 7) (e0 : 0 ≤ e) (e7 : e ≤ 7) (ne : d % 4 ≠ e % 4) : startK (betC c d e) (lowD d e) (hiD d e) k = shC c (startK (betC O4 d e) (lowD d e) (hiD d e) k) := by
  obtain ⟨l0, lh, h3⟩ := lowhi ne
  rw [betC_O4 d0 d7 e0 e7, start_sh l0 (by omega) (by omega) (by omega)]
theorem sidesOf_O4 {c : C4} {d e : Int} (d0 : 0 ≤ d) (d7 : d ≤ 7) (e0 : 0 ≤ e) (e7 : e ≤ 7) (ne : d % 4 ≠ e % 4) : sidesOf (betT c d e) c = sidesOf (betT O4 d e) O4 := by
  obtain ⟨l0, lh, h3⟩ := lowhi ne
  unfold sidesOf betT
  refine List.filter_congr fun k _ => ?_
  show (decide (c = startK (betC c d e) (lowD d e) (hiD d e) k) || decide (c = stepC (startK (betC c d e) (lowD d e) (hiD d e) k) (dirK (lowD d e) (hiD d e) k) 1)) = (decide (O4 = startK (betC O4 d e) (lowD d e) (hiD d e) k) || decide (O4 = stepC (startK (betC O4 d e) (lowD d e) (hiD d e) k) (dirK (lowD d e) (hiD d e) k) 1))
  have dk := dirK_in (k := k) l0 (show lowD d e ≤ 3 by omega) (show 0 ≤ hiD d e by omega) h3
  rw [start_O4 d0 d7 e0 e7 ne, step_sh dk.1 (by omega)]
  have key : ∀ x : C4, decide (c = shC c x) = decide (O4 = x) := fun x => decide_eq_decide.mpr ⟨fun h => sh_inj (c := c) (by rw [sh_O4]; exact h), fun h => by rw [← h, sh_O4]⟩
  rw [key, key]
/-- side k of the tile is the side at c in direction d -/
def IsEdge (t : C4 × Int × Int) (k : Int) (c : C4) (d : Int) : Prop := startK t.1 t.2.1 t.2.2 k = edgeA c d ∧ dirK t.2.1 t.2.2 k = edgeD d
theorem edge_O4 {c : C4} {d e x k : Int} (d0 : 0 ≤ d) (d7 : d ≤ 7) (e0 : 0 ≤ e) (e7 : e ≤ 7) (x0 : 0 ≤ x) (x7 : x ≤ 7) (ne : d % 4 ≠ e % 4) : IsEdge (betT c d e) k c x ↔ startK (betC O4 d e) (lowD d e) (hiD d e) k = edgeA O4 x ∧ dirK (lowD d e) (hiD d e) k = edgeD x := by
  unfold IsEdge
  show startK (betC c d e) (lowD d e) (hiD d e) k = edgeA c x ∧ _ ↔ _
  rw [start_O4 d0 d7 e0 e7 ne, edge_sh x0 x7]
  exact ⟨fun h => ⟨sh_inj h.1, h.2⟩, fun h => ⟨by rw [h.1], h.2⟩⟩
theorem sides_of {c : C4} {d e : Int} (d0 : 0 ≤ d) (d7 : d ≤ 7) (e0 : 0 ≤ e) (e7 : e ≤ 7) (ne : d % 4 ≠ e % 4) : ∃ k1 k2 : Int, 0 ≤ k1 ∧ k1 ≤ 3 ∧ 0 ≤ k2 ∧ k2 ≤ 3 ∧ sidesOf (betT c d e) c = [k1, k2] ∧ (IsEdge (betT c d e) k1 c d ∧ IsEdge (betT c d e) k2 c e ∨ IsEdge (betT c d e) k1 c e ∧ IsEdge (betT c d e) k2 c d) := by
  rw [sidesOf_O4 d0 d7 e0 e7 ne]
  obtain ⟨x, rfl⟩ := fin_of (n := 8) d0 (by omega)
  obtain ⟨y, rfl⟩ := fin_of (n := 8) e0 (by omega)
  obtain ⟨k1, k2, h1, h2⟩ := sides_of0 x y ne
  refine ⟨k1.val, k2.val, by omega, by omega, by omega, by omega, h1, ?_⟩
  rw [edge_O4 d0 d7 e0 e7 d0 d7 ne, edge_O4 d0 d7 e0 e7 e0 e7 ne, edge_O4 d0 d7 e0 e7 e0 e7 ne, edge_O4 d0 d7 e0 e7 d0 d7 ne]
  rcases h2 with ⟨a, b, c, d⟩ | ⟨a, b, c, d⟩
  · exact .inl ⟨⟨a, b⟩, ⟨c, d⟩⟩
  · exact .inr ⟨⟨a, b⟩, ⟨c, d⟩⟩
theorem sides_rest {c : C4} {d e k : Int} (d0 : 0 ≤ d) (d7 : d ≤ 7) (e0 : 0 ≤ e) (e7 : e ≤ 7) (ne : d % 4 ≠ e % 4) (k0 : 0 ≤ k) (k3 : k ≤ 3) (h : IsEdge (betT c d e) k c d) : ∃ k', 0 ≤ k' ∧ k' ≤ 3 ∧ ((sidesOf (betT c d e) c).filter fun x => decide (x ≠ k)) = [k'] ∧ IsEdge (betT c d e) k' c e := by
  rw [sidesOf_O4 d0 d7 e0 e7 ne]
  rw [edge_O4 d0 d7 e0 e7 d0 d7 ne] at h
  obtain ⟨x, rfl⟩ := fin_of (n := 8) d0 (by omega)
  obtain ⟨y, rfl⟩ := fin_of (n := 8) e0 (by omega)
  obtain ⟨z, rfl⟩ := fin_of (n := 4) k0 (by omega)
  obtain ⟨k', h1, h2⟩ := sides_rest0 x y ne z h.1 h.2
  exact ⟨k'.val, by omega, by omega, h1, (edge_O4 d0 d7 e0 e7 e0 e7 ne).mpr h2⟩
theorem bet_inj20 : ∀ d e d' e' : Fin 8, ((d.val : Int) % 4 ≠ (e.val : Int) % 4) → ((d'.val : Int) % 4 ≠ (e'.val : Int) % 4) → betT O4 (d.val : Int) (e.val : Int) = betT O4 (d'.val : Int) (e'.val : Int) → (d = d' ∧ e = e') ∨ (d = e' ∧ e = d') := by decide +kernel
theorem bet_inj2 {c : C4} {d e d' e' : Int} (d0 : 0 ≤ d) (d7 : d ≤ 7) (e0 : 0 ≤ e) (e7 : e ≤ 7) (f0 : 0 ≤ d') (f7 : d' ≤ 7) (g0 : 0 ≤ e') (g7 : e' ≤ 7) (n1 : d % 4 ≠ e % 4) (n2 : d' % 4 ≠ e' % 4) (h : betT c d e = betT c d' e') : d = d' ∧ e = e' ∨ d = e' ∧ e = d' := by
  have h' : betT O4 d e = betT O4 d' e' := by
    unfold betT at h ⊢
    injection h with a b
    rw [betC_O4 d0 d7 e0 e7, betC_O4 f0 f7 g0 g7] at a
    rw [sh_inj a, b]
  obtain ⟨x, rfl⟩ := fin_of (n := 8) d0 (by omega)
  obtain ⟨y, rfl⟩ := fin_of (n := 8) e0 (by omega)
  obtain ⟨z, rfl⟩ := fin_of (n := 8) f0 (by omega)
  obtain ⟨w, rfl⟩ := fin_of (n := 8) g0 (by omega)
  rcases bet_inj20 x y z w n1 n2 h' with ⟨rfl, rfl⟩ | ⟨rfl, rfl⟩
  · exact .inl ⟨rfl, rfl⟩
  · exact .inr ⟨rfl, rfl⟩
/-- a tile of the floor, and one of its sides -/
structure OkT (f : C4 → Bool) (t : C4 × Int × Int) : Prop where
  i0 : 0 ≤ t.2.1
  ij : t.2.1 < t.2.2
  j3 : t.2.2 ≤ 3
  al : (corsT t.1 t.2.1 t.2.2).all f = true
theorem edge_two {f : C4 → Bool} (G : GeoF f) {A : C4} {D : Int} {n : Nat} {t y w : C4 × Int × Int} {k : Int} (ok : OkT f t) (k0 : 0 ≤ k) (k3 : k ≤ 3) (hA : startK t.1 t.2.1 t.2.2 k = A) (hD : dirK t.2.1 t.2.2 k = D) (hn : (sidesF f A 8)[n]? = some D) (hy : (tilesF f A)[n]? = some y)
    (hw : (tilesF f A)[(n + (sidesF f A 8).length - 1) % (sidesF f A 8).length]? = some w) : t = y ∨ t = w := by
  obtain ⟨f0, f1⟩ := start_there ok.i0 ok.ij ok.j3 k0 k3 ok.al
  obtain ⟨e, e0, e7, ne, et⟩ := tile_as (c := t.1) ok.i0 ok.ij ok.j3 k0 k3
  have dk := dirK_in (k := k) ok.i0 (show t.2.1 ≤ 3 by have := ok.ij; have := ok.j3; omega) (show 0 ≤ t.2.2 by have := ok.i0; have := ok.ij; omega) ok.j3
  rw [hA, hD] at f1 et
  rw [hA] at f0
  rw [hD] at ne dk
  have al4 : (ends4 A D e).all f = true := by
    rw [← (bet_cors dk.1 (by omega) e0 e7 ne).all_eq]
    have e1 : (betC A D e, lowD D e, hiD D e) = t := et
    have al := ok.al
    rw [← e1] at al
    exact al
  simp only [ends4, List.all_cons, List.all_nil, Bool.and_true, Bool.and_eq_true] at al4
  obtain ⟨-, -, fe, fde⟩ := al4
  have hnl : n < (sidesF f A 8).length := (List.getElem?_eq_some_iff.mp hn).1
  have nd := sidesF_nodup (f := f) (c := A)
  obtain ⟨m, ⟨hm, hx⟩ | ⟨hm, hx⟩⟩ := about_tile G f0 dk.1 (by omega) e0 e7 ne f1 fe fde
  · left
    obtain rfl := ix_one nd hm hn
    obtain ⟨d', e', h1, h2, h3⟩ := tilesF_get hy
    rw [hm] at h1
    cases h1
    rw [hx] at h2
    rw [h3, ← h2]
    exact et.symm
  · right
    have hml : m < (sidesF f A 8).length := (List.getElem?_eq_some_iff.mp hm).1
    have h1 : (sidesF f A 8)[(m + 1) % (sidesF f A 8).length]? = some D := by
      rw [← hx, List.getD_eq_getElem?_getD, List.getElem?_eq_getElem (Nat.mod_lt _ (by omega))]
      rfl
    have en := ix_one nd hn h1
    have em : m = (n + (sidesF f A 8).length - 1) % (sidesF f A 8).length := by
      rcases Nat.lt_or_ge (m + 1) (sidesF f A 8).length with q | q
      · rw [Nat.mod_eq_of_lt q] at en
        rw [en, show m + 1 + (sidesF f A 8).length - 1 = m + (sidesF f A 8).length by omega, Nat.add_mod_right, Nat.mod_eq_of_lt hml]
      · have : m + 1 = (sidesF f A 8).length := by omega
        rw [this, Nat.mod_self] at en
        rw [en, Nat.zero_add, Nat.mod_eq_of_lt (by omega)]
        omega
    rw [← em] at hw
    obtain ⟨d', e', h2, h3, h4⟩ := tilesF_get hw
    rw [hm] at h2
    cases h2
    rw [hx] at h3
    rw [h4, ← h3, bet_symm e0 e7 dk.1 (by omega)]
    exact et.symm
/-- across a side of two tiles of the floor lies the other one -/
theorem across_is {f : C4 → Bool} (G : GeoF f) {t u x : C4 × Int × Int} {k k' : Int} (okt : OkT f t) (oku : OkT f u) (k0 : 0 ≤ k) (k3 : k ≤ 3) (k0' : 0 ≤ k') (k3' : k' ≤ 3) (hA : startK u.1 u.2.1 u.2.2 k' = startK t.1 t.2.1 t.2.2 k) (hD : dirK u.2.1 u.2.2 k' = dirK t.2.1 t.2.2 k) (ne : t ≠ u) (h : Across f t k x) : x = u := by
  obtain ⟨n, y, hn, hy, hx⟩ := h
  have hnl : n < (sidesF f (startK t.1 t.2.1 t.2.2 k) 8).length := (List.getElem?_eq_some_iff.mp hn).1
  have tl := tilesF_len (f := f) (c := startK t.1 t.2.1 t.2.2 k)
  have hp : (n + (sidesF f (startK t.1 t.2.1 t.2.2 k) 8).length - 1) % (sidesF f (startK t.1 t.2.1 t.2.2 k) 8).length < (sidesF f (startK t.1 t.2.1 t.2.2 k) 8).length := Nat.mod_lt _ (by omega)
  obtain ⟨w, hw⟩ : ∃ w, (tilesF f (startK t.1 t.2.1 t.2.2 k))[(n + (sidesF f (startK t.1 t.2.1 t.2.2 k) 8).length - 1) % (sidesF f (startK t.1 t.2.1 t.2.2 k) 8).length]? = some w := ⟨_, List.getElem?_eq_getElem (by omega)⟩
  have h1 := edge_two G okt k0 k3 rfl rfl hn hy hw
  have h2 := edge_two G oku k0' k3' hA hD hn hy hw
  rcases hx with ⟨a, rfl⟩ | ⟨a, b⟩
  · rcases h1 with h1 | h1
    · exact absurd h1.symm a
    · rcases h2 with h2 | h2
      · exact h2.symm
      · exact absurd (h1.trans h2.symm) ne
  · rw [hw] at b
    cases b
    rcases h2 with h2 | h2
    · exact absurd (a.symm.trans h2.symm) ne
    · exact h2.symm
/-- once round a corner: the directions one behind the other, from a tile on -/
structure Rnd (f : C4 → Bool) (c : C4) (n : Nat) (P : Nat → Int) (ix : Nat → Nat) : Prop where
  d0 : ∀ k, 0 ≤ P k
  d7 : ∀ k, P k ≤ 7
  ne : ∀ k, P k % 4 ≠ P (k + 1) % 4
  ok : ∀ k, OkT f (betT c (P k) (P (k + 1)))
  get : ∀ k, (tilesF f c)[ix k]? = some (betT c (P k) (P (k + 1)))
  inj : ∀ j k, j < k → k < n → ix j ≠ ix k
  ne2 : ∀ k, P k ≠ P (k + 2)
  b0 : P n = P 0
  b1 : P (n + 1) = P 1
theorem okT_of {f : C4 → Bool} (G : GeoF f) {c : C4} (g : Gap f c) (y : f c = true) {i : Nat} {d e : Int} (hd : (sidesF f c 8)[i]? = some d) (he : (sidesF f c 8).getD ((i + 1) % (sidesF f c 8).length) 0 = e) : 0 ≤ d ∧ d ≤ 7 ∧ 0 ≤ e ∧ e ≤ 7 ∧ d % 4 ≠ e % 4 ∧ OkT f (betT c d e) := by
  obtain ⟨d0, d7, e0, e7, ne, al⟩ := tile_there G g y hd he
  obtain ⟨l0, lh, h3⟩ := lowhi ne
  exact ⟨d0, d7, e0, e7, ne, ⟨l0, lh, h3, al⟩⟩
theorem tilesF_at {f : C4 → Bool} {c : C4} {i : Nat} (h : i < (sidesF f c 8).length) : (tilesF f c)[i]? = some (betT c ((sidesF f c 8).getD i 0) ((sidesF f c 8).getD ((i + 1) % (sidesF f c 8).length) 0)) := by
  obtain ⟨t, ht⟩ : ∃ t, (tilesF f c)[i]? = some t := ⟨_, List.getElem?_eq_getElem (by rw [tilesF_len]; exact h)⟩
  obtain ⟨d, e, h1, h2, rfl⟩ := tilesF_get ht
  rw [ht, h2, List.getD_eq_getElem?_getD, h1]
  rfl
theorem getD_inj {L : List Int} (nd : L.Nodup) {i j : Nat} (hi : i < L.length) (hj : j < L.length) (h : L.getD i 0 = L.getD j 0) : i = j := by
  refine ix_one nd (d := L.getD i 0) ?_ ?_
  · rw [List.getD_eq_getElem?_getD, List.getElem?_eq_getElem hi]
    rfl
  · rw [h, List.getD_eq_getElem?_getD, List.getElem?_eq_getElem hj]
    rfl
theorem mod8 {n : Nat} (h3 : 3 ≤ n) (h8 : n ≤ 8) {p : Nat → Prop} (a : p 3) (b : p 4) (c : p 5) (d : p 6) (e : p 7) (f : p 8) : p n := by
  have : n = 3 ∨ n = 4 ∨ n = 5 ∨ n = 6 ∨ n = 7 ∨ n = 8 := by omega
  rcases this with rfl | rfl | rfl | rfl | rfl | rfl <;> assumption
theorem rnd_fwd {f : C4 → Bool} (G : GeoF f) {c : C4} (g : Gap f c) (y : f c = true) {m : Nat} (hm : m < (sidesF f c 8).length) : Rnd f c (sidesF f c 8).length (fun k => (sidesF f c 8).getD ((m + k) % (sidesF f c 8).length) 0) (fun k => (m + k) % (sidesF f c 8).length) := by
  have l3 := (sidesF_next g).1
  have l8 := sidesF_len (f := f) (c := c) (n := 8)
  have nd := sidesF_nodup (f := f) (c := c)
  have at_ : ∀ i, i < (sidesF f c 8).length → (sidesF f c 8)[i]? = some ((sidesF f c 8).getD i 0) := fun i hi => by
    rw [List.getD_eq_getElem?_getD, List.getElem?_eq_getElem hi]
    rfl
  have lt : ∀ k, (m + k) % (sidesF f c 8).length < (sidesF f c 8).length := fun k => Nat.mod_lt _ (by omega)
  have sc : ∀ k, ((m + k) % (sidesF f c 8).length + 1) % (sidesF f c 8).length = (m + (k + 1)) % (sidesF f c 8).length := fun k => by
    rw [Nat.mod_add_mod]
    rfl
  have key := fun k => okT_of G g y (at_ _ (lt k)) rfl
  have key' : ∀ k, _ := fun k => sc k ▸ key k
  refine ⟨fun k => (key k).1, fun k => (key k).2.1, fun k => (key' k).2.2.2.2.1, fun k => (key' k).2.2.2.2.2, fun k => ?_, fun j k jk kn => ?_, fun k => ?_, ?_, ?_⟩
  · have := tilesF_at (f := f) (c := c) (lt k)
    rw [sc k] at this
    exact this
  · show (m + j) % (sidesF f c 8).length ≠ (m + k) % (sidesF f c 8).length
    revert hm kn
    generalize (sidesF f c 8).length = n at *
    refine mod8 (p := fun n => m < n → k < n → (m + j) % n ≠ (m + k) % n) l3 l8 ?_ ?_ ?_ ?_ ?_ ?_ <;> intros <;> omega
  · intro h
    have := getD_inj nd (lt k) (lt (k + 2)) h
    revert this
    generalize (sidesF f c 8).length = n at *
    refine mod8 (p := fun n => (m + k) % n = (m + (k + 2)) % n → False) l3 l8 ?_ ?_ ?_ ?_ ?_ ?_ <;> intros <;> omega
  · show (sidesF f c 8).getD ((m + (sidesF f c 8).length) % (sidesF f c 8).length) 0 = (sidesF f c 8).getD ((m + 0) % (sidesF f c 8).length) 0
    rw [Nat.add_mod_right, Nat.add_zero]
  · show (sidesF f c 8).getD ((m + ((sidesF f c 8).length + 1)) % (sidesF f c 8).length) 0 = (sidesF f c 8).getD ((m + 1) % (sidesF f c 8).length) 0
    rw [show m + ((sidesF f c 8).length + 1) = (m + 1) + (sidesF f c 8).length by omega, Nat.add_mod_right]
theorem rnd_bwd {f : C4 → Bool} (G : GeoF f) {c : C4} (g : Gap f c) (y : f c = true) {m : Nat} (hm : m < (sidesF f c 8).length) : Rnd f c (sidesF f c 8).length (fun k => (sidesF f c 8).getD ((m + 1 + ((sidesF f c 8).length - 1) * k) % (sidesF f c 8).length) 0) (fun k => (m + ((sidesF f c 8).length - 1) * k) % (sidesF f c 8).length) := by
  have l3 := (sidesF_next g).1
  have l8 := sidesF_len (f := f) (c := c) (n := 8)
  have nd := sidesF_nodup (f := f) (c := c)
  have at_ : ∀ i, i < (sidesF f c 8).length → (sidesF f c 8)[i]? = some ((sidesF f c 8).getD i 0) := fun i hi => by
    rw [List.getD_eq_getElem?_getD, List.getElem?_eq_getElem hi]
    rfl
  have lt : ∀ k, k % (sidesF f c 8).length < (sidesF f c 8).length := fun k => Nat.mod_lt _ (by omega)
  have e1 : ∀ k, ((m + ((sidesF f c 8).length - 1) * k) % (sidesF f c 8).length + 1) % (sidesF f c 8).length = (m + 1 + ((sidesF f c 8).length - 1) * k) % (sidesF f c 8).length := fun k => by
    rw [Nat.mod_add_mod]
    congr 1
    omega
  have e2 : ∀ k, (m + 1 + ((sidesF f c 8).length - 1) * (k + 1)) % (sidesF f c 8).length = (m + ((sidesF f c 8).length - 1) * k) % (sidesF f c 8).length := fun k => by
    rw [Nat.mul_succ, show m + 1 + (((sidesF f c 8).length - 1) * k + ((sidesF f c 8).length - 1)) = m + ((sidesF f c 8).length - 1) * k + (sidesF f c 8).length by omega, Nat.add_mod_right]
  have key := fun k => okT_of G g y (at_ _ (lt (m + ((sidesF f c 8).length - 1) * k))) rfl
  have P0 : ∀ k, 0 ≤ (sidesF f c 8).getD ((m + 1 + ((sidesF f c 8).length - 1) * k) % (sidesF f c 8).length) 0 ∧ (sidesF f c 8).getD ((m + 1 + ((sidesF f c 8).length - 1) * k) % (sidesF f c 8).length) 0 ≤ 7 := fun k => by
    have := key k
    rw [e1 k] at this
    exact ⟨this.2.2.1, this.2.2.2.1⟩
  have T : ∀ k, betT c ((sidesF f c 8).getD ((m + 1 + ((sidesF f c 8).length - 1) * k) % (sidesF f c 8).length) 0) ((sidesF f c 8).getD ((m + 1 + ((sidesF f c 8).length - 1) * (k + 1)) % (sidesF f c 8).length) 0) =
      betT c ((sidesF f c 8).getD ((m + ((sidesF f c 8).length - 1) * k) % (sidesF f c 8).length) 0) ((sidesF f c 8).getD (((m + ((sidesF f c 8).length - 1) * k) % (sidesF f c 8).length + 1) % (sidesF f c 8).length) 0) := fun k => by
    rw [e1 k, ← e2 k]
    exact bet_symm (P0 k).1 (P0 k).2 (P0 (k + 1)).1 (P0 (k + 1)).2
  refine ⟨fun k => (P0 k).1, fun k => (P0 k).2, fun k => ?_, fun k => ?_, fun k => ?_, fun j k jk kn => ?_, fun k => ?_, ?_, ?_⟩
  · have := (key k).2.2.2.2.1
    rw [e1 k, ← e2 k] at this
    exact fun h => this h.symm
  · show OkT f (betT c _ _)
    rw [T k]
    exact (key k).2.2.2.2.2
  · show _ = some (betT c _ _)
    rw [T k]
    exact tilesF_at (lt _)
  · show (m + ((sidesF f c 8).length - 1) * j) % (sidesF f c 8).length ≠ (m + ((sidesF f c 8).length - 1) * k) % (sidesF f c 8).length
    revert hm kn
    generalize (sidesF f c 8).length = n at *
    refine mod8 (p := fun n => m < n → k < n → (m + (n - 1) * j) % n ≠ (m + (n - 1) * k) % n) l3 l8 ?_ ?_ ?_ ?_ ?_ ?_ <;> intros <;> omega
  · intro h
    have := getD_inj nd (lt _) (lt _) h
    revert this
    generalize (sidesF f c 8).length = n at *
    refine mod8 (p := fun n => (m + 1 + (n - 1) * k) % n = (m + 1 + (n - 1) * (k + 2)) % n → False) l3 l8 ?_ ?_ ?_ ?_ ?_ ?_ <;> intros <;> omega
  · show (sidesF f c 8).getD ((m + 1 + ((sidesF f c 8).length - 1) * (sidesF f c 8).length) % (sidesF f c 8).length) 0 = (sidesF f c 8).getD ((m + 1 + ((sidesF f c 8).length - 1) * 0) % (sidesF f c 8).length) 0
    rw [Nat.add_mul_mod_self_right, Nat.mul_zero, Nat.add_zero]
  · show (sidesF f c 8).getD ((m + 1 + ((sidesF f c 8).length - 1) * ((sidesF f c 8).length + 1)) % (sidesF f c 8).length) 0 = (sidesF f c 8).getD ((m + 1 + ((sidesF f c 8).length - 1) * 1) % (sidesF f c 8).length) 0
    rw [Nat.mul_succ, show m + 1 + (((sidesF f c 8).length - 1) * (sidesF f c 8).length + ((sidesF f c 8).length - 1)) = (m + 1 + ((sidesF f c 8).length - 1)) + ((sidesF f c 8).length - 1) * (sidesF f c 8).length by omega, Nat.add_mul_mod_self_right, Nat.mul_one]
theorem about0 : ∀ i j : Fin 4, i.val < j.val → ∀ x ∈ corsT O4 (i.val : Int) (j.val : Int), ∃ d e : Fin 8, ((d.val : Int) % 4 ≠ (e.val : Int) % 4) ∧ betT x (d.val : Int) (e.val : Int) = (O4, (i.val : Int), (j.val : Int)) := by decide +kernel
theorem about_as {t : C4 × Int × Int} {c : C4} (i0 : 0 ≤ t.2.1) (ij : t.2.1 < t.2.2) (j3 : t.2.2 ≤ 3) (hc : c ∈ corsT t.1 t.2.1 t.2.2) : ∃ d e : Int, 0 ≤ d ∧ d ≤ 7 ∧ 0 ≤ e ∧ e ≤ 7 ∧ d % 4 ≠ e % 4 ∧ betT c d e = t := by
  obtain ⟨C, i, j⟩ := t
  simp only at *
  obtain ⟨x, rfl⟩ := fin_of (n := 4) i0 (by omega)
  obtain ⟨y, rfl⟩ := fin_of (n := 4) (d := j) (by omega) (by omega)
  rw [← sh_O4 C, cors_sh (by omega) (by omega) (by omega) (by omega)] at hc
  obtain ⟨z, hz, rfl⟩ := List.mem_map.mp hc
  obtain ⟨d, e, h1, h2⟩ := about0 x y (by omega) z hz
  refine ⟨d.val, e.val, by omega, by omega, by omega, by omega, h1, ?_⟩
  rw [betT_sh (by omega) (by omega) (by omega) (by omega)]
  unfold betT at h2
  injection h2 with a b
  rw [a, b, sh_O4]
/-- from a tile of the floor about a corner, by either side, once round -/
theorem rnd_from {f : C4 → Bool} (G : GeoF f) {c : C4} (g : Gap f c) (y : f c = true) {t : C4 × Int × Int} (ok : OkT f t) (hc : c ∈ corsT t.1 t.2.1 t.2.2) : ∃ (k1 k2 : Int) (P : Nat → Int) (ix : Nat → Nat), 0 ≤ k1 ∧ k1 ≤ 3 ∧ sidesOf t c = [k1, k2] ∧ t = betT c (P 0) (P 1) ∧ IsEdge t k1 c (P 1) ∧ Rnd f c (sidesF f c 8).length P ix := by
  obtain ⟨d, e, d0, d7, e0, e7, ne, et⟩ := about_as ok.i0 ok.ij ok.j3 hc
  have al4 : (ends4 c d e).all f = true := by
    rw [← (bet_cors d0 d7 e0 e7 ne).all_eq]
    have al := ok.al
    rw [← et] at al
    exact al
  simp only [ends4, List.all_cons, List.all_nil, Bool.and_true, Bool.and_eq_true] at al4
  obtain ⟨-, fd, fe, fde⟩ := al4
  obtain ⟨m, D, E, hm, hE, D0, D7, E0, E7, nE, eT⟩ : ∃ m D E, (sidesF f c 8)[m]? = some D ∧ (sidesF f c 8).getD ((m + 1) % (sidesF f c 8).length) 0 = E ∧ 0 ≤ D ∧ D ≤ 7 ∧ 0 ≤ E ∧ E ≤ 7 ∧ D % 4 ≠ E % 4 ∧ t = betT c D E := by
    obtain ⟨m, ⟨h1, h2⟩ | ⟨h1, h2⟩⟩ := about_tile G y d0 d7 e0 e7 ne fd fe fde
    · exact ⟨m, d, e, h1, h2, d0, d7, e0, e7, ne, et.symm⟩
    · exact ⟨m, e, d, h1, h2, e0, e7, d0, d7, fun z => ne z.symm, by rw [bet_symm e0 e7 d0 d7]; exact et.symm⟩
  have hml : m < (sidesF f c 8).length := (List.getElem?_eq_some_iff.mp hm).1
  have gD : (sidesF f c 8).getD (m % (sidesF f c 8).length) 0 = D := by
    rw [Nat.mod_eq_of_lt hml, List.getD_eq_getElem?_getD, hm]
    rfl
  subst eT
  obtain ⟨k1, k2, a0, a3, -, -, hs, ⟨h1, h2⟩ | ⟨h1, h2⟩⟩ := sides_of (c := c) D0 D7 E0 E7 nE
  · refine ⟨k1, k2, _, _, a0, a3, hs, ?_, ?_, rnd_bwd G g y hml⟩
    · show betT c D E = betT c ((sidesF f c 8).getD ((m + 1 + ((sidesF f c 8).length - 1) * 0) % (sidesF f c 8).length) 0) ((sidesF f c 8).getD ((m + 1 + ((sidesF f c 8).length - 1) * 1) % (sidesF f c 8).length) 0)
      rw [Nat.mul_zero, Nat.add_zero, hE, Nat.mul_one, show m + 1 + ((sidesF f c 8).length - 1) = m + (sidesF f c 8).length by omega, Nat.add_mod_right, gD]
      exact bet_symm D0 D7 E0 E7
    · show IsEdge (betT c D E) k1 c ((sidesF f c 8).getD ((m + 1 + ((sidesF f c 8).length - 1) * 1) % (sidesF f c 8).length) 0)
      rw [Nat.mul_one, show m + 1 + ((sidesF f c 8).length - 1) = m + (sidesF f c 8).length by omega, Nat.add_mod_right, gD]
      exact h1
  · refine ⟨k1, k2, _, _, a0, a3, hs, ?_, ?_, rnd_fwd G g y hml⟩
    · show betT c D E = betT c ((sidesF f c 8).getD ((m + 0) % (sidesF f c 8).length) 0) ((sidesF f c 8).getD ((m + 1) % (sidesF f c 8).length) 0)
      rw [Nat.add_zero, gD, hE]
    · show IsEdge (betT c D E) k1 c ((sidesF f c 8).getD ((m + 1) % (sidesF f c 8).length) 0)
      rw [hE]
      exact h1
/-- one tile farther round -/
theorem Rnd.next {f : C4 → Bool} (G : GeoF f) {c : C4} {n : Nat} {P : Nat → Int} {ix : Nat → Nat} (R : Rnd f c n P ix) {k : Int} {m : Nat} {x : C4 × Int × Int} (k0 : 0 ≤ k) (k3 : k ≤ 3) (he : IsEdge (betT c (P m) (P (m + 1))) k c (P (m + 1))) (h : Across f (betT c (P m) (P (m + 1))) k x) : x = betT c (P (m + 1)) (P (m + 2)) := by
  obtain ⟨q1, q2, a0, a3, b0, b3, -, hq⟩ := sides_of (c := c) (R.d0 (m + 1)) (R.d7 (m + 1)) (R.d0 (m + 2)) (R.d7 (m + 2)) (R.ne (m + 1))
  obtain ⟨q, q0, q3, hq⟩ : ∃ q, 0 ≤ q ∧ q ≤ 3 ∧ IsEdge (betT c (P (m + 1)) (P (m + 2))) q c (P (m + 1)) := by
    rcases hq with ⟨h, -⟩ | ⟨-, h⟩
    · exact ⟨q1, a0, a3, h⟩
    · exact ⟨q2, b0, b3, h⟩
  refine across_is G (R.ok m) (R.ok (m + 1)) k0 k3 q0 q3 (hq.1.trans he.1.symm) (hq.2.trans he.2.symm) (fun z => ?_) h
  rcases bet_inj2 (R.d0 m) (R.d7 m) (R.d0 (m + 1)) (R.d7 (m + 1)) (R.d0 (m + 1)) (R.d7 (m + 1)) (R.d0 (m + 2)) (R.d7 (m + 2)) (R.ne m) (R.ne (m + 1)) z with ⟨h1, -⟩ | ⟨h1, -⟩
  · exact R.ne m (by rw [h1])
  · exact R.ne2 m h1
theorem tilesF_nodup {f : C4 → Bool} {c : C4} (G : GeoF f) (g : Gap f c) (y : f c = true) : (tilesF f c).Nodup := by
  have l3 := (sidesF_next g).1
  have l8 := sidesF_len (f := f) (c := c) (n := 8)
  have nd := sidesF_nodup (f := f) (c := c)
  refine List.pairwise_iff_getElem.mpr fun i j hi hj ij h => ?_
  rw [tilesF_len] at hi hj
  have e1 := (List.getElem?_eq_getElem (by rw [tilesF_len]; exact hi)).symm.trans (tilesF_at (f := f) (c := c) hi)
  have e2 := (List.getElem?_eq_getElem (by rw [tilesF_len]; exact hj)).symm.trans (tilesF_at (f := f) (c := c) hj)
  have at_ : ∀ i, i < (sidesF f c 8).length → (sidesF f c 8)[i]? = some ((sidesF f c 8).getD i 0) := fun i hi => by
    rw [List.getD_eq_getElem?_getD, List.getElem?_eq_getElem hi]
    rfl
  obtain ⟨d0, d7, e0, e7, ne, -⟩ := okT_of G g y (at_ i hi) rfl
  obtain ⟨d0', d7', e0', e7', ne', -⟩ := okT_of G g y (at_ j hj) rfl
  have lt : ∀ k, k % (sidesF f c 8).length < (sidesF f c 8).length := fun k => Nat.mod_lt _ (by omega)
  rw [Option.some.inj e1, Option.some.inj e2] at h
  rcases bet_inj2 d0 d7 e0 e7 d0' d7' e0' e7' ne ne' h with ⟨h1, -⟩ | ⟨h1, h2⟩
  · have := getD_inj nd hi hj h1
    omega
  · have h1 := getD_inj nd hi (lt _) h1
    have h2 := getD_inj nd (lt _) hj h2
    have q : ∀ n : Nat, 3 ≤ n → n ≤ 8 → i < n → j < n → i = (j + 1) % n → (i + 1) % n = j → False := fun n l3 l8 => by
      refine mod8 (p := fun n => i < n → j < n → i = (j + 1) % n → (i + 1) % n = j → False) l3 l8 ?_ ?_ ?_ ?_ ?_ ?_ <;> intros <;> omega
    exact q _ l3 l8 hi hj h1 h2
/-- no tile twice -/
theorem Rnd.new {f : C4 → Bool} (G : GeoF f) {c : C4} (g : Gap f c) (y : f c = true) {n : Nat} {P : Nat → Int} {ix : Nat → Nat} (R : Rnd f c n P ix) {j k : Nat} (jk : j < k) (kn : k < n) : betT c (P j) (P (j + 1)) ≠ betT c (P k) (P (k + 1)) := fun h => by
  have nd := tilesF_nodup G g y
  have h1 := R.get j
  have h2 := R.get k
  rw [← h] at h2
  obtain ⟨l1, e1⟩ := List.getElem?_eq_some_iff.mp h1
  obtain ⟨l2, e2⟩ := List.getElem?_eq_some_iff.mp h2
  refine R.inj j k jk kn ?_
  rcases Nat.lt_trichotomy (ix j) (ix k) with h | h | h
  · exact absurd (e1.trans e2.symm) (List.pairwise_iff_getElem.mp nd _ _ l1 l2 h)
  · exact h
  · exact absurd (e2.trans e1.symm) (List.pairwise_iff_getElem.mp nd _ _ l2 l1 h)
/-! what two tiles at a side have in common -/
theorem com0 : ∀ D : Fin 4, ∀ e e' : Fin 8, ((D.val : Int) % 4 ≠ (e.val : Int) % 4) → ((D.val : Int) % 4 ≠ (e'.val : Int) % 4) → e ≠ e' → ((ends4 O4 (D.val : Int) (e.val : Int)).filter fun x => decide (x ∈ ends4 O4 (D.val : Int) (e'.val : Int))) = [O4, stepC O4 (D.val : Int) 1] := by decide +kernel
/-- the corners that both have -/
def comT (t u : C4 × Int × Int) : List C4 := (corsT t.1 t.2.1 t.2.2).filter fun x => decide (x ∈ corsT u.1 u.2.1 u.2.2)
theorem com_perm {f : C4 → Bool} {t u : C4 × Int × Int} {k k' : Int} (okt : OkT f t) (oku : OkT f u) (k0 : 0 ≤ k) (k3 : k ≤ 3) (k0' : 0 ≤ k') (k3' : k' ≤ 3) (hA : startK u.1 u.2.1 u.2.2 k' = startK t.1 t.2.1 t.2.2 k) (hD : dirK u.2.1 u.2.2 k' = dirK t.2.1 t.2.2 k) (ne : t ≠ u) :
    (comT t u).Perm [startK t.1 t.2.1 t.2.2 k, stepC (startK t.1 t.2.1 t.2.2 k) (dirK t.2.1 t.2.2 k) 1] := by
  obtain ⟨e, e0, e7, n1, et⟩ := tile_as (c := t.1) okt.i0 okt.ij okt.j3 k0 k3
  obtain ⟨e', e0', e7', n2, et'⟩ := tile_as (c := u.1) oku.i0 oku.ij oku.j3 k0' k3'
  rw [hA, hD] at et'
  rw [hD] at n2
  have dk := dirK_in (k := k) okt.i0 (show t.2.1 ≤ 3 by have := okt.ij; have := okt.j3; omega) (show 0 ≤ t.2.2 by have := okt.i0; have := okt.ij; omega) okt.j3
  generalize startK t.1 t.2.1 t.2.2 k = A at *
  generalize dirK t.2.1 t.2.2 k = D at *
  have ee : e ≠ e' := fun z => ne (by
    have h1 : betT A D e = t := et
    have h2 : betT A D e' = u := et'
    rw [← h1, ← h2, z])
  have p1 : (corsT t.1 t.2.1 t.2.2).Perm (ends4 A D e) := by
    have := bet_cors (c := A) dk.1 (by omega) e0 e7 n1
    have h1 : (betC A D e, lowD D e, hiD D e) = t := et
    rw [← h1]
    exact this
  have p2 : (corsT u.1 u.2.1 u.2.2).Perm (ends4 A D e') := by
    have := bet_cors (c := A) dk.1 (by omega) e0' e7' n2
    have h1 : (betC A D e', lowD D e', hiD D e') = u := et'
    rw [← h1]
    exact this
  unfold comT
  have e1 : ((corsT t.1 t.2.1 t.2.2).filter fun x => decide (x ∈ corsT u.1 u.2.1 u.2.2)) = (corsT t.1 t.2.1 t.2.2).filter fun x => decide (x ∈ ends4 A D e') := List.filter_congr fun x _ => decide_eq_decide.mpr p2.mem_iff
  rw [e1]
  refine (p1.filter _).trans ?_
  rw [show A = shC A O4 from (sh_O4 A).symm, ends_sh dk.1 (by omega) e0 e7, ends_sh dk.1 (by omega) e0' e7', List.filter_map, step_sh dk.1 (by omega)]
  obtain ⟨x, rfl⟩ := fin_of (n := 4) dk.1 (by omega)
  obtain ⟨y, rfl⟩ := fin_of (n := 8) e0 (by omega)
  obtain ⟨z, rfl⟩ := fin_of (n := 8) e0' (by omega)
  have h := com0 x y z n1 n2 (fun q => ee (by rw [q]))
  have e2 : ((ends4 O4 (x.val : Int) (y.val : Int)).filter ((fun w => decide (w ∈ (ends4 O4 (x.val : Int) (z.val : Int)).map (shC A))) ∘ shC A)) = (ends4 O4 (x.val : Int) (y.val : Int)).filter fun w => decide (w ∈ ends4 O4 (x.val : Int) (z.val : Int)) := List.filter_congr fun w _ => decide_eq_decide.mpr ⟨fun h => by
    obtain ⟨v, hv, ev⟩ := List.mem_map.mp h
    rw [← sh_inj ev]
    exact hv, fun h => List.mem_map.mpr ⟨w, h, rfl⟩⟩
  rw [e2, h]
  exact List.Perm.refl _
theorem side_inj0 : ∀ i j : Fin 4, i.val < j.val → ∀ k k' : Fin 4, startK O4 (i.val : Int) (j.val : Int) (k.val : Int) = startK O4 (i.val : Int) (j.val : Int) (k'.val : Int) → dirK (i.val : Int) (j.val : Int) (k.val : Int) = dirK (i.val : Int) (j.val : Int) (k'.val : Int) → k = k' := by decide +kernel
theorem side_inj {c : C4} {i j k k' : Int} (i0 : 0 ≤ i) (ij : i < j) (j3 : j ≤ 3) (k0 : 0 ≤ k) (k3 : k ≤ 3) (k0' : 0 ≤ k') (k3' : k' ≤ 3) (h1 : startK c i j k = startK c i j k') (h2 : dirK i j k = dirK i j k') : k = k' := by
  rw [← sh_O4 c, start_sh i0 (by omega) (by omega) (by omega), start_sh i0 (by omega) (by omega) (by omega)] at h1
  have h1 := sh_inj h1
  obtain ⟨x, rfl⟩ := fin_of (n := 4) i0 (by omega)
  obtain ⟨y, rfl⟩ := fin_of (n := 4) (d := j) (by omega) (by omega)
  obtain ⟨z, rfl⟩ := fin_of (n := 4) k0 (by omega)
  obtain ⟨w, rfl⟩ := fin_of (n := 4) k0' (by omega)
  rw [side_inj0 x y (by omega) z w h1 h2]
abbrev s__law_side_with : Stmt := top 70
theorem sc__law_side_with : FnScope ["tile", "ends", "side"] ["tile", "ends"] (defScope s__law_side_with) := ⟨rfl, rfl, rfl, by decide +kernel, rfl, by decide +kernel, by decide +kernel⟩

def sp__law_side_with (Z : Zs) : Sp := fun vs H Q E =>
  ∃ v l c i j c' i' j' k' p q kb, vs = [v, .ref l] ∧ TileAt H v c i j ∧ 0 ≤ i ∧ i < j ∧ j ≤ 3 ∧ 0 ≤ i' ∧ i' < j' ∧ j' ≤ 3 ∧ H l = some (.lst [p, q]) ∧ CorAt H p (startK c' i' j' k') ∧ CorAt H q (stepC (startK c' i' j' k') (dirK i' j' k') 1) ∧ 0 ≤ kb ∧ kb ≤ 3 ∧ startK c i j kb = startK c' i' j' k' ∧ dirK i j kb = dirK i' j' k' ∧ ∀ H', Same H H' → Q (.int kb) H'
theorem ok__law_side_with (T : Txt Z mg) (h__law_side_ends : Has P w Z.K mg base "_law_side_ends" 3 ["tile", "side"] (sp__law_side_ends Z)) (D : AtF Z.K mg "_law_side_with" "_law_side_with" s__law_side_with ["tile", "ends"]) : Has P w Z.K mg base "_law_side_with" 4 ["tile", "ends"] (sp__law_side_with Z) := by
  refine D.ok sc__law_side_with (fun vs H Q E h => ?_) (fun cdv A outer s H vs Q E hr h => ?_)
  · obtain ⟨v, l, c, i, j, c', i', j', k', p, q, kb, rfl, _⟩ := h
    rfl
  · refine ⟨_, (pss_cons (ps_for (passes_of rfl) rfl (pi_range1 rfl T.n_range (pa_cons pe_int pa_nil)) (pg_name (i := 2) sc__law_side_with.nd rfl (Or.inl rfl)) (pss_one (ps_if (pt_cmpR (op_eqD hr.units) (pe_h (E := ED E) h__law_side_ends hr (paW (takes_of rfl rfl rfl rfl)) (pa_cons (pv 0) (pa_cons (pv 2) pa_nil))) (pv 1) (nomark _)) (pss_one (ps_ret (pv 2))) pss_nil)))
      (pss_one (ps_ret pe_non))), ?_⟩
    try simp only [cxOf]
    obtain ⟨v, l, c, i, j, c', i', j', k', p, q, kb, rfl, ht, i0, ij, j3, i0', ij', j3', el, hp, hq, kb0, kb3, e1, e2, qq⟩ := h
    walk_at "W"
    refine k_forR (n := 4) (fun m σ' H' => Same H H' ∧ (∃ z, σ' = [some v, some (.ref l), z]) ∧ (m : Int) ≤ kb) (by decide) (by decide) ⟨Same.refl _, ⟨none, rfl⟩, kb0⟩ ?_ ?_
    · rintro m σ' H1 hm ⟨s1, ⟨z, rfl⟩, hkb⟩
      have hm4 : m < 4 := hm
      walk_at "W"
      refine ⟨v, c, i, j, _, rfl, ht.same s1, i0, ij, j3, by omega, by omega, fun u p' q' H2 hu s2 ee cp cq => ?_⟩
      have S2 := s1.trans s2
      walk_at "W"
      refine w_eqCL ee (S2 _ _ el) (CsAt.two cp cq) (CsAt.two (hp.same S2) (hq.same S2)) ?_
      rw [show decide ([startK c i j (0 + (m : Int)), stepC (startK c i j (0 + (m : Int))) (dirK i j (0 + (m : Int))) 1] = [startK c' i' j' k', stepC (startK c' i' j' k') (dirK i' j' k') 1]) = decide (startK c i j (0 + (m : Int)) = startK c' i' j' k' ∧ dirK i j (0 + (m : Int)) = dirK i' j' k') from decide_eq_decide.mpr (ends_eq i0' ij' j3' i0 ij j3)]
      walk_at "W"
      refine w_ite (fun h => ?_) (fun h => ?_)
      · walk_at "W"
        rw [side_inj i0 ij j3 (show 0 ≤ 0 + (m : Int) by omega) (by omega) kb0 kb3 (h.1.trans e1.symm) (h.2.trans e2.symm)]
        exact qq H2 S2
      · walk_at "W"
        refine ⟨S2, ⟨_, rfl⟩, ?_⟩
        have : kb ≠ 0 + (m : Int) := fun z => h (by rw [← z]; exact ⟨e1, e2⟩)
        omega
    · rintro σ' H1 ⟨s1, ⟨z, rfl⟩, hkb⟩
      exfalso
      have : ((4 : Int).toNat : Int) ≤ kb := hkb
      have e4 : ((4 : Int).toNat : Int) = 4 := rfl
      omega
abbrev s__law_common : Stmt := top 71
theorem sc__law_common : FnScope ["one", "other", "ends", "corner"] ["one", "other"] (defScope s__law_common) := ⟨rfl, rfl, rfl, by decide +kernel, rfl, by decide +kernel, by decide +kernel⟩

def sp__law_common (Z : Zs) : Sp := fun vs H Q E =>
  ∃ v w c i j c' i' j', vs = [v, w] ∧ TileAt H v c i j ∧ 0 ≤ i ∧ i ≤ 3 ∧ 0 ≤ j ∧ j ≤ 3 ∧ TileAt H w c' i' j' ∧ 0 ≤ i' ∧ i' ≤ 3 ∧ 0 ≤ j' ∧ j' ≤ 3 ∧ ∀ u ws H', H u = none → Same H H' → H' u = some (.lst ws) → CsAt H' ws (sortC (comT (c, i, j) (c', i', j'))) → Q (.ref u) H'
theorem ok__law_common (T : Txt Z mg) (h__law_ends : Has P w Z.K mg base "_law_ends" 2 ["tile"] (sp__law_ends Z)) (D : AtF Z.K mg "_law_common" "_law_common" s__law_common ["one", "other"]) : Has P w Z.K mg base "_law_common" 3 ["one", "other"] (sp__law_common Z) := by
  refine D.ok sc__law_common (fun vs H Q E h => ?_) (fun cdv A outer s H vs Q E hr h => ?_)
  · obtain ⟨v, w, c, i, j, c', i', j', rfl, _⟩ := h
    rfl
  · refine ⟨_, (pss_cons (ps_set (i := 2) sc__law_common.nd rfl (Or.inr rfl) (pe_h (E := ED E) h__law_ends hr (paW (takes_of rfl rfl rfl rfl)) (pa_cons (pv 1) pa_nil)))
      (pss_one (ps_ret (pe_callB (cr_sortedD hr.units) rfl T.n_sorted (by decide +kernel) (pa_cons (pe_lc (own := [("corner", 3)]) (g := gName 3) rfl sc__law_common.nd (pi_list (pe_h (E := ED E) h__law_ends hr (paW (takes_of rfl rfl rfl rfl)) (pa_cons (pv 0) pa_nil))) (blkOk_by (N := ["one", "other", "ends", "corner"]) (sc := defScope s__law_common) (by decide +kernel)) (fun _ _ _ _ _ => pg_name (i := 3) sc__law_common.nd rfl (Or.inl rfl)) (fun _ _ _ _ _ => (pts_one (pt_cmpR (op_inDZ (K := Z.K) rfl (room65 hr)) (pv 3) (pv 2) (by rfl)))) (fun _ _ _ _ _ => (pv 3))) pa_nil))))), ?_⟩
    try simp only [cxOf]
    obtain ⟨v, w, c, i, j, c', i', j', rfl, ht, i0, i3, j0, j3, ht', i0', i3', j0', j3', q⟩ := h
    walk_at "W"
    refine ⟨w, c', i', j', rfl, ht', i0', i3', j0', j3', fun ue we H1 hue s1 ee ce => ?_⟩
    walk_at "W"
    refine ⟨v, c, i, j, rfl, ht.same s1, i0, i3, j0, j3, fun uo wo H2 huo s2 eo co => ?_⟩
    walk_at "W"
    refine k_lcL (xs := wo) (fun n D H' => H2 D = none ∧ (∃ vs, H' D = some (.lst vs) ∧ CsAt H' vs (((corsT c i j).take n).filter fun x => decide (x ∈ corsT c' i' j'))) ∧ Same H2 H') (SqL.of eo) (fun D hD => ⟨hD, ⟨[], upd_same, trivial⟩, Same.new hD⟩) (fun n D H' h => SqL.of (h.2.2 _ _ eo)) ?_ ?_
    · rintro n x D H' hx ⟨hD, ⟨vs, e1, c1⟩, ss⟩
      obtain ⟨o, ho, hco⟩ := (co.kpt (Kpt.same ss)).get hx
      have nl : n < 4 := (List.getElem?_eq_some_iff.mp ho).1
      refine ⟨rfl, ?_⟩
      walk_at "W"
      refine ⟨corD o, _, cor_dp hco, .lst (SqL.of (ss _ _ (s2 _ _ ee))) (ce.kpt (Kpt.same (s2.trans ss))).dp, cor_shapedD _, cors_shapedL _, ?_⟩
      rw [any_corD]
      have nx : ((corsT c i j).take (n + 1)).filter (fun x => decide (x ∈ corsT c' i' j')) = ((corsT c i j).take n).filter (fun x => decide (x ∈ corsT c' i' j')) ++ (if decide (o ∈ corsT c' i' j') = true then [o] else []) := by
        rw [List.take_add_one, ho, List.filter_append]
        show _ ++ List.filter _ [o] = _
        rw [List.filter_cons, List.filter_nil]
      refine ⟨_, rfl, ?_⟩
      refine w_ite (fun h => ?_) (fun h => ?_)
      · walk_at "W"
        refine ⟨vs, e1, few_lt (by rw [c1.len]; have := List.length_filter_le (fun x => decide (x ∈ corsT c' i' j')) ((corsT c i j).take n); rw [List.length_take] at this; omega), hD, ⟨vs ++ [x], upd_same, ?_⟩, fun b o eb => ?_⟩
        · rw [nx, if_pos (decide_eq_true h)]
          exact (c1.kpt (Kpt.updL e1)).add (hco.kpt (Kpt.updL e1))
        · rw [upd_ne (ne_of_none eb hD)]
          exact ss _ _ eb
      · refine ⟨hD, ⟨vs, e1, ?_⟩, ss⟩
        rw [nx, if_neg (by rw [decide_eq_false h]; decide), List.append_nil]
        exact c1
    · rintro D H' ⟨hD, ⟨vs, e1, c1⟩, ss⟩
      rw [List.take_of_length_le (Nat.le_of_eq co.len.symm)] at c1
      walk_at "W"
      exact k_sortedC e1 c1 fun u H3 ws hu s3 e3 c3 => q u ws H3 ((s1.trans (s2.trans ss)).free hu) (s1.trans (s2.trans (ss.trans s3))) e3 c3
abbrev s__law_round : Stmt := top 72
theorem sc__law_round : FnScope ["floor", "tile", "corner", "due", "side", "sides", "seen", "k", "ends", "later", "back", "rest", "other"] ["floor", "tile", "corner"] (defScope s__law_round) := ⟨rfl, rfl, rfl, by decide +kernel, rfl, by decide +kernel, by decide +kernel⟩

def sp__law_round (Z : Zs) : Sp := fun vs H Q E =>
  ∃ v o p c t x r b t' r' b', vs = [v, o, .ref p] ∧ FloorAt Z H v t r b t' r' b' ∧ 0 < b ∧ 0 < b' ∧ GeoF (hasB t r b t' r' b') ∧ (∀ c, hasB t r b t' r' b' c = true → Gap (hasB t r b t' r' b') c) ∧ H p = some (.tup [.int (c : C4).a, .int c.b, .int c.c, .int c.d]) ∧ C4.bw 400 c ∧
    TileAt H o (x : C4 × Int × Int).1 x.2.1 x.2.2 ∧ OkT (hasB t r b t' r' b') x ∧ c ∈ corsT x.1 x.2.1 x.2.2 ∧ ∀ H', Q (.bl true) H'
theorem ok__law_round (T : Txt Z mg) (h__law_side_ends : Has P w Z.K mg base "_law_side_ends" 3 ["tile", "side"] (sp__law_side_ends Z)) (h__law_side_with : Has P w Z.K mg base "_law_side_with" 4 ["tile", "ends"] (sp__law_side_with Z)) (h__law_is_tile : Has P w Z.K mg base "_law_is_tile" 2 ["thing"] (sp__law_is_tile Z)) (h_Floor_across : HasM P w Z.K mg base Z.c_Floor "across" 7 ["self", "tile", "side"] (sp_Floor_across Z)) (h_Floor_tiles_at : HasM P w Z.K mg base Z.c_Floor "tiles_at" 6 ["self", "corner"] (sp_Floor_tiles_at Z)) (D : AtF Z.K mg "_law_round" "_law_round" s__law_round ["floor", "tile", "corner"]) : Has P w Z.K mg base "_law_round" 8 ["floor", "tile", "corner"] (sp__law_round Z) := by
  refine D.ok sc__law_round (fun vs H Q E h => ?_) (fun cdv A outer s H vs Q E hr h => ?_)
  · obtain ⟨v, o, p, c, t, x, r, b, t', r', b', rfl, _⟩ := h
    rfl
  · refine ⟨_, (pss_cons (ps_set (i := 3) sc__law_round.nd rfl (Or.inl rfl) (pe_hm (E := ED E) h_Floor_tiles_at T.c_Floor hr (paW (takes_of rfl rfl rfl rfl)) (pv 0) (pa_cons (pv 2) pa_nil)))
      (pss_cons (ps_if (PW.pt (pw_or (pt_not (pt_val (pe_callB call_isi rfl T.n_isinstance (by decide +kernel) (pa_cons (pv 3) (pa_cons (pe_bltn (v := .ty "tuple") rfl T.n_tuple (by decide +kernel) rfl) pa_nil))))) (pw_or1 (pt_cmpR (op_notInDT (room65 hr)) (pv 1) (pv 3) (by rfl))))) (pss_one (ps_ret pe_bl)) pss_nil)
      (pss_cons (ps_setLc (i := 5) (own := [("side", 4)]) (g := gName 4) rfl sc__law_round.nd rfl rfl (sw_true rfl rfl rfl (by decide +kernel)) (pi_range1 rfl T.n_range (pa_cons pe_int pa_nil)) (blkOk_by (N := ["floor", "tile", "corner", "due", "side", "sides", "seen", "k", "ends", "later", "back", "rest", "other"]) (sc := defScope s__law_round) (by decide +kernel)) (fun _ _ _ _ _ => pg_name (i := 4) sc__law_round.nd rfl (Or.inl rfl)) (fun _ _ _ _ _ => (pts_one (pt_cmpR (op_inDZ (K := Z.K) rfl (room65 hr)) (pv 2) (pe_h (E := fun _ => E0) h__law_side_ends hr pa0 (pa_cons (pv 1) (pa_cons (pv 4) pa_nil))) (by rfl)))) (fun _ _ _ _ _ => (pv 4)))
      (pss_cons (ps_set (i := 4) sc__law_round.nd rfl (Or.inl rfl) (pe_ix ix_seq (pv 5) pe_int (fun _ _ => rfl)))
      (pss_cons (ps_set (i := 6) sc__law_round.nd rfl (Or.inl rfl) (pe_lst pa_nil))
      (pss_cons (ps_for (passes_of rfl) rfl (pi_range1 rfl T.n_range (pa_cons (pe_callB cn_len rfl T.n_len (by decide +kernel) (pa_cons (pv 3) pa_nil)) pa_nil)) (pg_name (i := 7) sc__law_round.nd rfl (Or.inl rfl)) (pss_cons (ps_if (PW.pt (pw_or (pt_cmpR (op_inDZ (K := Z.K) rfl (room65 hr)) (pv 1) (pv 6) (by rfl)) (pw_or1 (pt_cmpR (op_notInDT (room65 hr)) (pv 1) (pv 3) (by rfl))))) (pss_one (ps_ret pe_bl)) pss_nil)
      (pss_cons (ps_expr (pe_bm PySem.F.plainAttrs_list PySem.F.slot_list_append PySem.F.type_list_append mt_append (pv 6) (pa_cons (pv 1) pa_nil)))
      (pss_cons (ps_set (i := 8) sc__law_round.nd rfl (Or.inl rfl) (pe_h (E := ED E) h__law_side_ends hr (paW (takes_of rfl rfl rfl rfl)) (pa_cons (pv 1) (pa_cons (pv 4) pa_nil))))
      (pss_cons (ps_set (i := 9) sc__law_round.nd rfl (Or.inr rfl) (pe_hm (E := ED E) h_Floor_across T.c_Floor hr (paW (takes_of rfl rfl rfl rfl)) (pv 0) (pa_cons (pv 1) (pa_cons (pv 4) pa_nil))))
      (pss_cons (ps_if (pt_not (pt_val (pe_h (E := ED E) h__law_is_tile hr (paW (takes_of rfl rfl rfl rfl)) (pa_cons (pv 9) pa_nil)))) (pss_one (ps_ret pe_bl)) pss_nil)
      (pss_cons (ps_set (i := 10) sc__law_round.nd rfl (Or.inr rfl) (pe_h (E := ED E) h__law_side_with hr (paW (takes_of rfl rfl rfl rfl)) (pa_cons (pv 9) (pa_cons (pv 8) pa_nil))))
      (pss_cons (ps_setLc (i := 11) (own := [("other", 12)]) (g := gName 12) rfl sc__law_round.nd rfl rfl (sw_true rfl rfl rfl (by decide +kernel)) (pi_range1 rfl T.n_range (pa_cons pe_int pa_nil)) (blkOk_by (N := ["floor", "tile", "corner", "due", "side", "sides", "seen", "k", "ends", "later", "back", "rest", "other"]) (sc := defScope s__law_round) (by decide +kernel)) (fun _ _ _ _ _ => pg_name (i := 12) sc__law_round.nd rfl (Or.inl rfl)) (fun _ _ _ _ _ => (pts_one (PW.pt (pw_and (pt_cmpR op_ne (pv 12) (pv 10) (nomark _)) (pw_and1 (pt_cmpR (op_inDZ (K := Z.K) rfl (room65 hr)) (pv 2) (pe_h (E := fun _ => E0) h__law_side_ends hr pa0 (pa_cons (pv 9) (pa_cons (pv 12) pa_nil))) (by rfl))))))) (fun _ _ _ _ _ => (pv 12)))
      (pss_cons (ps_if (PW.pt (pw_or (pt_cmpR op_isN (pv 10) pe_non (nomark _)) (pw_or1 (pt_cmpR op_ne (pe_callB cn_len rfl T.n_len (by decide +kernel) (pa_cons (pv 11) pa_nil)) pe_int (nomark _))))) (pss_one (ps_ret pe_bl)) pss_nil)
      (pss_cons (ps_set (i := 1) sc__law_round.nd rfl (Or.inr rfl) (pv 9))
      (pss_one (ps_set (i := 4) sc__law_round.nd rfl (Or.inl rfl) (pe_ix ix_seq (pv 11) pe_int (fun _ _ => rfl))))))))))))))
      (pss_one (ps_ret (pe_and (pe_cmpR (op_eqD hr.units) (pv 1) (pe_ix ix_seq (pv 6) pe_int (fun _ _ => rfl)) (nomark _)) (pe_one (pe_cmpR op_eq (pv 4) (pe_ix ix_seq (pv 5) pe_int (fun _ _ => rfl)) (nomark _)))))))))))), ?_⟩
    try simp only [cxOf]
    obtain ⟨v, o, p, c, t, x, r, b, t', r', b', rfl, hf, pb, pb', G, gapf, hp, wc, ht, ok, hc, q⟩ := h
    have f0 : hasB t r b t' r' b' c = true := (List.all_eq_true.mp ok.al) c hc
    have gp := gapf c f0
    obtain ⟨k1, k2, P, ix, k10, k13, hS, hT, hE, R⟩ := rnd_from G gp f0 ok hc
    have hf0 := hf
    obtain ⟨af, dxf, uu, gg, vx, vy, Bf, X1, X2, Y1, Y2, rfl, ef, -⟩ := hf0
    have meth : ∀ {m : Str} {H' : Hp} {N : Hp → Prop}, Kps H H' → (m == ("shift" : Str)) = false → (m == ("_gauge" : Str)) = false → N H' → MethP Z.c_Floor m (.ref af) H' N := fun {m H' N} k n1 n2 hn => k_meth (k _ _ (by intro xs z; cases z) ef) (ff_none n1 n2) hn
    walk_at "W"
    refine meth (Kps.refl _) (by decide +kernel) (by decide +kernel) ?_
    walk_at "W"
    refine ⟨_, _, _, _, _, _, _, _, rfl, hf, pb, pb', .inl ⟨c, ⟨p, rfl, hp⟩, wc.mono (by decide), .inl ⟨f0, fun ud ws H1 hud s1 ed ts => ?_⟩⟩⟩
    walk_at "W"
    obtain ⟨ty, hty, _, _, kty⟩ := (Plain.tup ud _ ed).ty (K := Z.K)
    rw [isTu_tup ed] at kty
    refine w_isi hty kty ?_
    walk_at "W"
    refine ⟨tlD3 x, _, tile_dp3 (ht.same s1), .tup (SqT.of ed) ts.dp, tl_shaped3 _, tls_shapedT _, ?_⟩
    have memT : ∀ k, betT c (P k) (P (k + 1)) ∈ tilesF (hasB t r b t' r' b') c := fun k => List.mem_of_getElem? (R.get k)
    rw [any_tlD, decide_eq_true (by rw [hT]; exact memT 0)]
    walk_at "W"
    refine k_lcR (n := 4) (fun i D H' => H1 D = none ∧ H' D = some (.lst ((((List.range i).map Int.ofNat).filter fun k => decide (c = startK x.1 x.2.1 x.2.2 k) || decide (c = stepC (startK x.1 x.2.1 x.2.2 k) (dirK x.2.1 x.2.2 k) 1)).map V.int)) ∧ Same H1 H') (by decide) (by decide) (fun D hD => ⟨hD, upd_same, Same.new hD⟩) ?_ ?_
    · rintro i D H' hi ⟨hD, e1, ss⟩
      have hi4 : i < 4 := hi
      refine ⟨rfl, ?_⟩
      walk_at "W"
      refine ⟨o, _, _, _, _, rfl, ht.same (s1.trans ss), ok.i0, ok.ij, ok.j3, by omega, by omega, fun ul pa pb2 H2 hul s2 el ca cb => ?_⟩
      have S2 := s1.trans (ss.trans s2)
      refine ⟨corD c, _, cor_dp ⟨p, rfl, S2 _ _ hp⟩, .lst (SqL.of el) (CsAt.two ca cb).dp, cor_shapedD _, cors_shapedL _, ?_⟩
      rw [any_corD]
      have nx : (((List.range (i + 1)).map Int.ofNat).filter fun k => decide (c = startK x.1 x.2.1 x.2.2 k) || decide (c = stepC (startK x.1 x.2.1 x.2.2 k) (dirK x.2.1 x.2.2 k) 1)) = (((List.range i).map Int.ofNat).filter fun k => decide (c = startK x.1 x.2.1 x.2.2 k) || decide (c = stepC (startK x.1 x.2.1 x.2.2 k) (dirK x.2.1 x.2.2 k) 1)) ++ (if (decide (c = startK x.1 x.2.1 x.2.2 (0 + (i : Int))) || decide (c = stepC (startK x.1 x.2.1 x.2.2 (0 + (i : Int))) (dirK x.2.1 x.2.2 (0 + (i : Int))) 1)) = true then [0 + (i : Int)] else []) := by
        rw [List.range_succ, List.map_append, List.filter_append, Int.zero_add]
        show _ ++ List.filter _ [(i : Int)] = _
        rw [List.filter_cons, List.filter_nil]
      refine ⟨_, rfl, ?_⟩
      rw [show decide (c ∈ [startK x.1 x.2.1 x.2.2 (0 + (i : Int)), stepC (startK x.1 x.2.1 x.2.2 (0 + (i : Int))) (dirK x.2.1 x.2.2 (0 + (i : Int))) 1]) = (decide (c = startK x.1 x.2.1 x.2.2 (0 + (i : Int))) || decide (c = stepC (startK x.1 x.2.1 x.2.2 (0 + (i : Int))) (dirK x.2.1 x.2.2 (0 + (i : Int))) 1)) by
        rw [Bool.eq_iff_iff]
        simp]
      cases hb : (decide (c = startK x.1 x.2.1 x.2.2 (0 + (i : Int))) || decide (c = stepC (startK x.1 x.2.1 x.2.2 (0 + (i : Int))) (dirK x.2.1 x.2.2 (0 + (i : Int))) 1))
      · rw [hb] at nx
        refine ⟨hD, ?_, ss.trans s2⟩
        rw [nx, if_neg (by decide), List.append_nil]
        exact s2 _ _ e1
      · rw [hb] at nx
        walk_at "W"
        refine ⟨_, s2 _ _ e1, few_lt ?_, hD, ?_, fun b o eb => ?_⟩
        · rw [List.length_map]
          refine Nat.le_trans (List.length_filter_le _ _) ?_
          rw [List.length_map, List.length_range]
          omega
        · rw [nx, if_pos rfl, List.map_append, upd_same]
          rfl
        · rw [upd_ne (ne_of_none eb hD)]
          exact s2 _ _ (ss _ _ eb)
    rintro us H2 ⟨hus, eus, s2⟩
    have eus : H2 us = some (.lst [.int k1, .int k2]) := by
      have : sidesOf x c = _ := rfl
      rw [hS] at this
      rw [eus]
      show some (HO.lst ((sidesOf x c).map V.int)) = _
      rw [hS]
      rfl
    walk_at "W"
    refine k_lst rfl fun un H3 hun s3 e3 => ?_
    have S3 := s1.trans (s2.trans s3)
    have nun : ∀ {a : Addr} {oo : HO}, H2 a = some oo → a ≠ un := fun h z => by rw [z, hun] at h; cases h
    walk_at "W"
    refine w_lenT (SqT.of (s3 _ _ (s2 _ _ ed))) ?_
    walk_at "W"
    have l8 := sidesF_len (f := hasB t r b t' r' b') (c := c) (n := 8)
    have l3 := (sidesF_next gp).1
    have lw : ws.length = (sidesF (hasB t r b t' r' b') c 8).length := by rw [ts.len, tilesF_len]
    rw [lw]
    refine k_forR (n := ((sidesF (hasB t r b t' r' b') c 8).length : Int)) (fun k σ' H' => ∃ o s vs z7 z8 z9 z10 z11 z12, σ' = [some (.ref af), some o, some (.ref p), some (.ref ud), some (.int s), some (.ref us), some (.ref un), z7, z8, z9, z10, z11, z12] ∧ SameX un H3 H' ∧ Kpt H3 H' ∧ TileAt H' o (betT c (P k) (P (k + 1))).1 (betT c (P k) (P (k + 1))).2.1 (betT c (P k) (P (k + 1))).2.2 ∧ 0 ≤ s ∧ s ≤ 3 ∧ IsEdge (betT c (P k) (P (k + 1))) s c (P (k + 1)) ∧ H' un = some (.lst vs) ∧ TsAt H' vs ((List.range k).map fun j => betT c (P j) (P (j + 1)))) (by omega) (by omega) ⟨o, k1, [], none, none, none, none, none, none, rfl, fun _ _ _ e => e, Kpt.refl _, by rw [← hT]; exact ht.same S3, k10, k13, by rw [← hT]; exact hE, e3, trivial⟩ ?_ ?_
    · rintro k σ' H4 hk ⟨o4, s4, vs, z7, z8, z9, z10, z11, z12, rfl, x4, K4, ht4, s40, s43, hE4, e4, ts4⟩
      have hkn : k < (sidesF (hasB t r b t' r' b') c 8).length := by omega
      have kH : Kpt H H4 := (Kpt.same S3).trans K4
      walk_at "W"
      refine ⟨tlD3 (betT c (P k) (P (k + 1))), _, tile_dp3 ht4, .lst (SqL.of e4) ts4.dp, tl_shaped3 _, tls_shaped3 _, ?_⟩
      have nin : ¬ betT c (P k) (P (k + 1)) ∈ (List.range k).map fun j => betT c (P j) (P (j + 1)) := fun h => by
        obtain ⟨j, hj, ej⟩ := List.mem_map.mp h
        exact R.new G gp f0 (List.mem_range.mp hj) hkn ej
      rw [any_tlD, show decide (betT c (P k) (P (k + 1)) ∈ (List.range k).map fun j => betT c (P j) (P (j + 1))) = false from decide_eq_false nin]
      walk_at "W"
      refine ⟨tlD3 (betT c (P k) (P (k + 1))), _, tile_dp3 ht4, .tup (SqT.of (K4.tup (s3 _ _ (s2 _ _ ed)))) (ts.kpt ((Kpt.same (s2.trans s3)).trans K4)).dp, tl_shaped3 _, tls_shapedT _, ?_⟩
      rw [any_tlD, decide_eq_true (memT k)]
      walk_at "W"
      refine k_bm e4 ?_
      walk_at "W"
      refine w_app e4 (few_lt (by rw [ts4.len, List.length_map, List.length_range]; omega)) fun H5 x5 k5 e5 => ?_
      have ht5 := ht4.kpt k5
      have okT := R.ok k
      walk_at "W"
      refine ⟨o4, _, _, _, _, rfl, ht5, okT.i0, okT.ij, okT.j3, s40, s43, fun ul pa pb2 H6 hul s6 el ca cb => ?_⟩
      have K6 : Kps H H6 := (Kps.same S3).trans ((Kps.sx e3 x4).trans ((Kps.sx e4 x5).trans (Kps.same s6)))
      walk_at "W"
      refine meth K6 (by decide +kernel) (by decide +kernel) ?_
      walk_at "W"
      have wT : C4.bw 402 (betT c (P k) (P (k + 1))).1 := bet_bw (R.d0 k) (R.d7 k) (R.d0 (k + 1)) (R.d7 (k + 1)) wc
      refine ⟨_, o4, _, _, _, _, _, _, _, rfl, hf.kps K6, pb, pb', .inr ⟨_, _, _, ht5.same s6, okT.i0, okT.ij, okT.j3, wT.mono (by decide), .inr ⟨okT.al, (Plain.int _).thI, .inr ⟨s4, rfl, s40, s43, fun u7 x7 H7 s7 t7 ac => ?_⟩⟩⟩⟩
      obtain rfl := R.next G s40 s43 hE4 ac
      have okN := R.ok (k + 1)
      walk_at "W"
      refine ⟨_, _, _, _, rfl, t7, okN.i0, okN.ij, okN.j3, fun H8 s8 => ?_⟩
      walk_at "W"
      obtain ⟨q, q0, q3, hq⟩ : ∃ q, 0 ≤ q ∧ q ≤ 3 ∧ IsEdge (betT c (P (k + 1)) (P (k + 2))) q c (P (k + 1)) := by
        obtain ⟨q1, q2, a0, a3, b0, b3, -, hq⟩ := sides_of (c := c) (R.d0 (k + 1)) (R.d7 (k + 1)) (R.d0 (k + 2)) (R.d7 (k + 2)) (R.ne (k + 1))
        rcases hq with ⟨h, -⟩ | ⟨-, h⟩
        · exact ⟨q1, a0, a3, h⟩
        · exact ⟨q2, b0, b3, h⟩
      have S78 := s7.trans s8
      refine ⟨_, ul, _, _, _, _, _, _, s4, pa, pb2, q, rfl, t7.same s8, okN.i0, okN.ij, okN.j3, okT.i0, okT.ij, okT.j3, S78 _ _ el, ca.same S78, cb.same S78, q0, q3, hq.1.trans hE4.1.symm, hq.2.trans hE4.2.symm, fun H9 s9 => ?_⟩
      walk_at "W"
      have nxF : ∀ i : Nat, ((((List.range (i + 1)).map Int.ofNat).filter fun k' => decide (c = startK (betT c (P (k + 1)) (P (k + 2))).1 (betT c (P (k + 1)) (P (k + 2))).2.1 (betT c (P (k + 1)) (P (k + 2))).2.2 k') || decide (c = stepC (startK (betT c (P (k + 1)) (P (k + 2))).1 (betT c (P (k + 1)) (P (k + 2))).2.1 (betT c (P (k + 1)) (P (k + 2))).2.2 k') (dirK (betT c (P (k + 1)) (P (k + 2))).2.1 (betT c (P (k + 1)) (P (k + 2))).2.2 k') 1)).filter fun x => decide (x ≠ q)) =
          ((((List.range i).map Int.ofNat).filter fun k' => decide (c = startK (betT c (P (k + 1)) (P (k + 2))).1 (betT c (P (k + 1)) (P (k + 2))).2.1 (betT c (P (k + 1)) (P (k + 2))).2.2 k') || decide (c = stepC (startK (betT c (P (k + 1)) (P (k + 2))).1 (betT c (P (k + 1)) (P (k + 2))).2.1 (betT c (P (k + 1)) (P (k + 2))).2.2 k') (dirK (betT c (P (k + 1)) (P (k + 2))).2.1 (betT c (P (k + 1)) (P (k + 2))).2.2 k') 1)).filter fun x => decide (x ≠ q)) ++
          (if (decide (0 + (i : Int) ≠ q) && (decide (c = startK (betT c (P (k + 1)) (P (k + 2))).1 (betT c (P (k + 1)) (P (k + 2))).2.1 (betT c (P (k + 1)) (P (k + 2))).2.2 (0 + (i : Int))) || decide (c = stepC (startK (betT c (P (k + 1)) (P (k + 2))).1 (betT c (P (k + 1)) (P (k + 2))).2.1 (betT c (P (k + 1)) (P (k + 2))).2.2 (0 + (i : Int))) (dirK (betT c (P (k + 1)) (P (k + 2))).2.1 (betT c (P (k + 1)) (P (k + 2))).2.2 (0 + (i : Int))) 1))) = true then [0 + (i : Int)] else []) := fun i => by
        rw [List.filter_filter, List.filter_filter, List.range_succ, List.map_append, List.filter_append, Int.zero_add]
        show _ ++ List.filter _ [(i : Int)] = _
        rw [List.filter_cons, List.filter_nil]
      generalize ey : betT c (P (k + 1)) (P (k + 2)) = y at *
      refine k_lcR (n := 4) (fun i D H' => H9 D = none ∧ H' D = some (.lst (((((List.range i).map Int.ofNat).filter fun k' => decide (c = startK y.1 y.2.1 y.2.2 k') || decide (c = stepC (startK y.1 y.2.1 y.2.2 k') (dirK y.2.1 y.2.2 k') 1)).filter fun x => decide (x ≠ q)).map V.int)) ∧ Same H9 H') (by decide) (by decide) (fun D hD => ⟨hD, upd_same, Same.new hD⟩) ?_ ?_
      · rintro i D H' hi ⟨hD, e1, ss⟩
        have hi4 : i < 4 := hi
        have nx := nxF i
        refine ⟨rfl, ?_⟩
        walk_at "W"
        rw [show (!decide (V.int (0 + (i : Int)) = V.int q)) = decide (0 + (i : Int) ≠ q) by rw [Bool.eq_iff_iff]; simp]
        refine w_ite (fun hn => ?_) (fun hn => ?_)
        · have hn' : 0 + (i : Int) ≠ q := hn
          rw [decide_eq_true hn', Bool.true_and] at nx
          walk_at "W"
          refine ⟨_, _, _, _, _, rfl, t7.same (s8.trans (s9.trans ss)), okN.i0, okN.ij, okN.j3, by omega, by omega, fun ul' pa' pb' H10 hul' s10 el' ca' cb' => ?_⟩
          refine ⟨corD c, _, cor_dp ⟨p, rfl, (Kps.same (s7.trans (s8.trans (s9.trans (ss.trans s10))))).tup (K6.tup hp)⟩, .lst (SqL.of el') (CsAt.two ca' cb').dp, cor_shapedD _, cors_shapedL _, ?_⟩
          rw [any_corD]
          refine ⟨_, rfl, ?_⟩
          rw [show decide (c ∈ [startK y.1 y.2.1 y.2.2 (0 + (i : Int)), stepC (startK y.1 y.2.1 y.2.2 (0 + (i : Int))) (dirK y.2.1 y.2.2 (0 + (i : Int))) 1]) = (decide (c = startK y.1 y.2.1 y.2.2 (0 + (i : Int))) || decide (c = stepC (startK y.1 y.2.1 y.2.2 (0 + (i : Int))) (dirK y.2.1 y.2.2 (0 + (i : Int))) 1)) by
            rw [Bool.eq_iff_iff]
            simp]
          cases hb : (decide (c = startK y.1 y.2.1 y.2.2 (0 + (i : Int))) || decide (c = stepC (startK y.1 y.2.1 y.2.2 (0 + (i : Int))) (dirK y.2.1 y.2.2 (0 + (i : Int))) 1))
          · rw [hb] at nx
            refine ⟨hD, ?_, ss.trans s10⟩
            rw [nx, if_neg (by decide), List.append_nil]
            exact s10 _ _ e1
          · rw [hb] at nx
            walk_at "W"
            refine ⟨_, s10 _ _ e1, few_lt ?_, hD, ?_, fun b o eb => ?_⟩
            · rw [List.length_map]
              refine Nat.le_trans (List.length_filter_le _ _) (Nat.le_trans (List.length_filter_le _ _) ?_)
              rw [List.length_map, List.length_range]
              omega
            · rw [nx, if_pos rfl, List.map_append, upd_same]
              rfl
            · rw [upd_ne (ne_of_none eb hD)]
              exact s10 _ _ (ss _ _ eb)
        · have hn' : ¬ (0 + (i : Int) ≠ q) := hn
          rw [decide_eq_false hn', Bool.false_and] at nx
          walk_at "W"
          refine ⟨hD, ?_, ss⟩
          rw [nx, if_neg (by decide), List.append_nil]
          exact e1
      rintro ur H10 ⟨hur, eur, s10⟩
      obtain ⟨k', k'0, k'3, hk', hE'⟩ : ∃ k', 0 ≤ k' ∧ k' ≤ 3 ∧ ((sidesOf y c).filter fun x => decide (x ≠ q)) = [k'] ∧ IsEdge y k' c (P (k + 2)) := by
        rw [← ey] at hq ⊢
        exact sides_rest (R.d0 (k + 1)) (R.d7 (k + 1)) (R.d0 (k + 2)) (R.d7 (k + 2)) (R.ne (k + 1)) q0 q3 hq
      have eur : H10 ur = some (.lst [.int k']) := by
        rw [eur]
        show some (HO.lst (((sidesOf y c).filter fun x => decide (x ≠ q)).map V.int)) = _
        rw [hk']
        rfl
      walk_at "W"
      refine w_lenL (SqL.of eur) ?_
      walk_at "W"
      have S10 := s6.trans (s7.trans (s8.trans (s9.trans s10)))
      refine ⟨_, _, vs ++ [o4], _, _, _, _, _, _, rfl, ?_, ?_, ?_, k'0, k'3, ?_, S10 _ _ e5, ?_⟩
      · exact x4.trans (x5.trans (Same.x S10))
      · exact (K4.trans k5).trans (Kpt.same S10)
      · have e9 := t7.same (s8.trans (s9.trans s10))
        exact e9
      · exact hE'
      · rw [List.range_succ, List.map_append]
        exact ((ts4.kpt k5).kpt (Kpt.same S10)).add (ht5.kpt (Kpt.same S10))
    · rintro σ' H4 ⟨o4, s4, vs, z7, z8, z9, z10, z11, z12, rfl, x4, K4, ht4, s40, s43, hE4, e4, ts4⟩
      walk_at "W"
      have ln := ts4.len
      rw [List.length_map, List.length_range] at ln
      have hz : ((List.range ((sidesF (hasB t r b t' r' b') c 8).length : Int).toNat).map fun j => betT c (P j) (P (j + 1)))[0]? = some (betT c (P 0) (P 1)) := by
        rw [List.getElem?_map, List.getElem?_range (by omega)]
        rfl
      obtain ⟨v0, hv0, t0⟩ := ts4.at' hz
      refine w_ixL e4 (show atI vs 0 = some v0 from atI_nat hv0) ?_
      rw [show ((sidesF (hasB t r b t' r' b') c 8).length : Int).toNat = (sidesF (hasB t r b t' r' b') c 8).length from Int.toNat_natCast _, R.b0, R.b1] at ht4 hE4
      refine ⟨tlD3 (betT c (P 0) (P 1)), tlD3 (betT c (P 0) (P 1)), tile_dp3 ht4, tile_dp3 t0, tl_shaped3 _, tl_shaped3 _, ?_⟩
      rw [tl_eqv, decide_eq_true rfl]
      walk_at "W"
      have eus4 := x4 _ _ (nun eus) (s3 _ _ eus)
      refine w_ixL eus4 rfl ?_
      walk_at "W"
      rw [← hT] at hE4
      have es : s4 = k1 := side_inj ok.i0 ok.ij ok.j3 s40 s43 k10 k13 (hE4.1.trans hE.1.symm) (hE4.2.trans hE.2.symm)
      rw [es, decide_eq_true rfl]
      exact q H4
def WayOk (f : C4 → Bool) (k : Nat) (ts : Nat → C4 × Int × Int) (ks : Nat → Int) (n : Nat) : Prop := (∀ m, m ≤ k → OkT f (ts m) ∧ C4.bw (n + 3 * m) (ts m).1) ∧ ∀ m, m < k → 0 ≤ ks m ∧ ks m ≤ 3 ∧ Across f (ts m) (ks m) (ts (m + 1))
theorem WayOk.add {f : C4 → Bool} {k : Nat} {ts : Nat → C4 × Int × Int} {ks : Nat → Int} {n : Nat} (h : WayOk f k ts ks n) {x : C4 × Int × Int} {s : Int} (ok : OkT f x) (w : C4.bw (n + 3 * (k + 1)) x.1) (s0 : 0 ≤ s) (s3 : s ≤ 3) (a : Across f (ts k) s x) :
    WayOk f (k + 1) (fun m => if m = k + 1 then x else ts m) (fun m => if m = k then s else ks m) n := by
  refine ⟨fun m hm => ?_, fun m hm => ?_⟩
  · show OkT f (if m = k + 1 then x else ts m) ∧ C4.bw _ (if m = k + 1 then x else ts m).1
    by_cases e : m = k + 1
    · rw [if_pos e, e]
      exact ⟨ok, w⟩
    · rw [if_neg e]
      exact h.1 m (by omega)
  · show 0 ≤ (if m = k then s else ks m) ∧ (if m = k then s else ks m) ≤ 3 ∧ Across f (if m = k + 1 then x else ts m) (if m = k then s else ks m) (if m + 1 = k + 1 then x else ts (m + 1))
    rw [if_neg (show m ≠ k + 1 by omega)]
    by_cases e : m = k
    · rw [if_pos e, if_pos (by omega), e]
      exact ⟨s0, s3, a⟩
    · rw [if_neg e, if_neg (by omega)]
      exact h.2 m (by omega)
def PsAt (H : Hp) (st uw up : Addr) (ps : List V) (ts : Nat → C4 × Int × Int) (ks : Nat → Int) (k : Nat) : Prop := ps.length = k ∧ ∀ m, m < k → ∃ u p q, ps[m]? = some (.ref u) ∧ u ≠ st ∧ u ≠ uw ∧ u ≠ up ∧ H u = some (.lst [p, q]) ∧ CorAt H p (startK (ts m).1 (ts m).2.1 (ts m).2.2 (ks m)) ∧ CorAt H q (stepC (startK (ts m).1 (ts m).2.1 (ts m).2.2 (ks m)) (dirK (ts m).2.1 (ts m).2.2 (ks m)) 1)
theorem PsAt.keep {H H' : Hp} {st uw up : Addr} {ps : List V} {ts : Nat → C4 × Int × Int} {ks : Nat → Int} {k : Nat} (h : PsAt H st uw up ps ts ks k) (s : ∀ b o, b ≠ st → b ≠ uw → b ≠ up → H b = some o → H' b = some o) (K : Kps H H') : PsAt H' st uw up ps ts ks k := by
  refine ⟨h.1, fun m hm => ?_⟩
  obtain ⟨u, p, q, a, n1, n2, n3, e, c1, c2⟩ := h.2 m hm
  exact ⟨u, p, q, a, n1, n2, n3, s _ _ n1 n2 n3 e, c1.kps K, c2.kps K⟩
theorem PsAt.add {H : Hp} {st uw up u : Addr} {ps : List V} {p q : V} {ts : Nat → C4 × Int × Int} {ks : Nat → Int} {k : Nat} {x : C4 × Int × Int} {s : Int} (h : PsAt H st uw up ps ts ks k) (n1 : u ≠ st) (n2 : u ≠ uw) (n3 : u ≠ up) (e : H u = some (.lst [p, q])) (c1 : CorAt H p (startK (ts k).1 (ts k).2.1 (ts k).2.2 s)) (c2 : CorAt H q (stepC (startK (ts k).1 (ts k).2.1 (ts k).2.2 s) (dirK (ts k).2.1 (ts k).2.2 s) 1)) :
    PsAt H st uw up (ps ++ [.ref u]) (fun m => if m = k + 1 then x else ts m) (fun m => if m = k then s else ks m) (k + 1) := by
  refine ⟨by rw [List.length_append, h.1]; rfl, fun m hm => ?_⟩
  by_cases em : m = k
  · subst em
    have g1 : (fun j => if j = m + 1 then x else ts j) m = ts m := if_neg (by omega)
    have g2 : (fun j => if j = m then s else ks j) m = s := if_pos rfl
    refine ⟨u, p, q, ?_, n1, n2, n3, e, ?_, ?_⟩
    · rw [List.getElem?_append_right (Nat.le_of_eq h.1), h.1, Nat.sub_self]
      rfl
    · rw [g1, g2]
      exact c1
    · rw [g1, g2]
      exact c2
  · obtain ⟨u', p', q', a, m1, m2, m3, e', c1', c2'⟩ := h.2 m (by omega)
    have g1 : (fun j => if j = k + 1 then x else ts j) m = ts m := if_neg (by omega)
    have g2 : (fun j => if j = k then s else ks j) m = ks m := if_neg em
    refine ⟨u', p', q', ?_, m1, m2, m3, e', ?_, ?_⟩
    · rw [List.getElem?_append_left (by rw [h.1]; omega)]
      exact a
    · rw [g1, g2]
      exact c1'
    · rw [g1, g2]
      exact c2'
theorem atI_lastN {vs : List V} {k : Nat} {v : V} (hl : vs.length = k + 1) (h : vs[k]? = some v) : atI vs (-1) = some v := by
  have e : vs = vs.take k ++ [v] := by
    have h' := (List.take_of_length_le (l := vs) (i := k + 1) (by omega)).symm
    rw [List.take_add_one, h] at h'
    exact h'
  rw [e]
  exact atI_last _ _
theorem rng_get {α : Type} {n m : Nat} (f : Nat → α) (h : m < n) : ((List.range n).map f)[m]? = some (f m) := by
  rw [List.getElem?_map, List.getElem?_range h]
  rfl
theorem two_eqv {K : PySem.W.Frag} {H : Hp} {Q : VK} {a b : Addr} {vs ws : List V} {cs : List C4} (h1 : H a = some (.lst vs)) (h2 : H b = some (.lst ws)) (c1 : CsAt H vs cs) (c2 : CsAt H ws cs) (q : Q (.bl false) H) : rNeD K (.ref a) (.ref b) H Q := by
  refine ⟨_, _, .lst (SqL.of h1) c1.dp, .lst (SqL.of h2) c2.dp, cors_shapedL _, cors_shapedL _, ?_⟩
  rw [SeqAt.eqv_refl _ (SeqAt.canLay_of_shaped (cors_shapedL _))]
  exact q
abbrev s_law : Stmt := top 73
theorem sc_law : FnScope ["script", "state", "many", "corner", "shift", "floor", "tiles", "way", "passed", "k", "side", "ends", "later", "last", "pivot"] ["script"] (defScope s_law) := ⟨rfl, rfl, rfl, by decide +kernel, rfl, by decide +kernel, by decide +kernel⟩

def sp_law (Z : Zs) : Sp := fun vs H Q E =>
  ∃ (a : Addr) (ns : List Int), vs = [.ref a] ∧ SqL Z.K H a (ns.map V.int) ∧ ∀ H', Q (.bl true) H'
theorem ok_law (T : Txt Z mg) (h__law_round : Has P w Z.K mg base "_law_round" 8 ["floor", "tile", "corner"] (sp__law_round Z)) (h__law_ends : Has P w Z.K mg base "_law_ends" 2 ["tile"] (sp__law_ends Z)) (h__law_draw : Has P w Z.K mg base "_law_draw" 2 ["state", "many"] (sp__law_draw Z)) (h__law_side_with : Has P w Z.K mg base "_law_side_with" 4 ["tile", "ends"] (sp__law_side_with Z)) (h__law_common : Has P w Z.K mg base "_law_common" 3 ["one", "other"] (sp__law_common Z)) (h__law_has_tile : Has P w Z.K mg base "_law_has_tile" 5 ["shift", "tile"] (sp__law_has_tile Z)) (h__law_is_tile : Has P w Z.K mg base "_law_is_tile" 2 ["thing"] (sp__law_is_tile Z)) (h__law_side_ends : Has P w Z.K mg base "_law_side_ends" 3 ["tile", "side"] (sp__law_side_ends Z)) (h__law_tiles_at : Has P w Z.K mg base "_law_tiles_at" 6 ["shift", "corner"] (sp__law_tiles_at Z)) (h__law_floor : Has P w Z.K mg base "_law_floor" 11 ["shift"] (sp__law_floor Z)) (h__law_shift : Has P w Z.K mg base "_law_shift" 2 ["corner", "spot"] (sp__law_shift Z)) (h__law_spot : Has P w Z.K mg base "_law_spot" 4 ["state"] (sp__law_spot Z)) (h__law_corner : Has P w Z.K mg base "_law_corner" 4 ["state"] (sp__law_corner Z)) (h__law_start : Has P w Z.K mg base "_law_start" 1 ["script"] (sp__law_start Z)) (h_Floor_across : HasM P w Z.K mg base Z.c_Floor "across" 7 ["self", "tile", "side"] (sp_Floor_across Z)) {f : Addr} {fd : FuncData} (D : Fun Z.K "law" "law" s_law f fd) : FnOk P w Z.K mg base (L2.CX P w) 12 f fd ["script"] (sp_law Z) := by
  refine D.okX sc_law (fun vs H Q E h => ?_) (fun cdv A outer s H vs Q E hr h => ?_)
  · obtain ⟨a, ns, rfl, _⟩ := h
    rfl
  · refine ⟨_, (pss_cons (ps_set (i := 1) sc_law.nd rfl (Or.inl rfl) (pe_h (E := ED E) h__law_start hr (paW (takes_of rfl rfl rfl rfl)) (pa_cons (pv 0) pa_nil)))
      (pss_cons (ps_set (i := 2) sc_law.nd rfl (Or.inl rfl) (pe_h (E := ED E) h__law_draw hr (paW (takes_of rfl rfl rfl rfl)) (pa_cons (pv 1) (pa_cons pe_int pa_nil))))
      (pss_cons (ps_set (i := 3) sc_law.nd rfl (Or.inl rfl) (pe_h (E := ED E) h__law_corner hr (paW (takes_of rfl rfl rfl rfl)) (pa_cons (pv 1) pa_nil)))
      (pss_cons (ps_set (i := 4) sc_law.nd rfl (Or.inl rfl) (pe_h (E := ED E) h__law_shift hr (paW (takes_of rfl rfl rfl rfl)) (pa_cons (pv 3) (pa_cons (pe_h (E := ED E) h__law_spot hr (paW (takes_of rfl rfl rfl rfl)) (pa_cons (pv 1) pa_nil)) pa_nil))))
      (pss_cons (ps_set (i := 5) sc_law.nd rfl (Or.inl rfl) (pe_h (E := ED E) h__law_floor hr (paW (takes_of rfl rfl rfl rfl)) (pa_cons (pv 4) pa_nil)))
      (pss_cons (ps_set (i := 6) sc_law.nd rfl (Or.inl rfl) (pe_h (E := ED E) h__law_tiles_at hr (paW (takes_of rfl rfl rfl rfl)) (pa_cons (pv 4) (pa_cons (pv 3) pa_nil))))
      (pss_cons (ps_set (i := 7) sc_law.nd rfl (Or.inl rfl) (pe_lst (pa_cons (pe_ix ix_seq (pv 6) (pe_h (E := ED E) h__law_draw hr (paW (takes_of rfl rfl rfl rfl)) (pa_cons (pv 1) (pa_cons (pe_callB cn_len rfl T.n_len (by decide +kernel) (pa_cons (pv 6) pa_nil)) pa_nil))) (fun _ _ => rfl)) pa_nil)))
      (pss_cons (ps_set (i := 8) sc_law.nd rfl (Or.inl rfl) (pe_lst pa_nil))
      (pss_cons (ps_for (passes_of rfl) rfl (pi_range1 rfl T.n_range (pa_cons (pv 2) pa_nil)) (pg_name (i := 9) sc_law.nd rfl (Or.inl rfl)) (pss_cons (ps_set (i := 10) sc_law.nd rfl (Or.inl rfl) (pe_h (E := ED E) h__law_draw hr (paW (takes_of rfl rfl rfl rfl)) (pa_cons (pv 1) (pa_cons pe_int pa_nil))))
      (pss_cons (ps_set (i := 11) sc_law.nd rfl (Or.inl rfl) (pe_h (E := ED E) h__law_side_ends hr (paW (takes_of rfl rfl rfl rfl)) (pa_cons (pe_ix ix_seq (pv 7) (pe_un un_neg pe_int) (fun _ _ => rfl)) (pa_cons (pv 10) pa_nil))))
      (pss_cons (ps_set (i := 12) sc_law.nd rfl (Or.inl rfl) (pe_hm (E := ED E) h_Floor_across T.c_Floor hr (paW (takes_of rfl rfl rfl rfl)) (pv 5) (pa_cons (pe_ix ix_seq (pv 7) (pe_un un_neg pe_int) (fun _ _ => rfl)) (pa_cons (pv 10) pa_nil))))
      (pss_cons (ps_if (PW.pt (pw_or (pt_not (pt_val (pe_h (E := ED E) h__law_is_tile hr (paW (takes_of rfl rfl rfl rfl)) (pa_cons (pv 12) pa_nil)))) (pw_or (pt_cmpR (op_eqD hr.units) (pv 12) (pe_ix ix_seq (pv 7) (pe_un un_neg pe_int) (fun _ _ => rfl)) (nomark _)) (pw_or1 (pt_not (pt_val (pe_h (E := ED E) h__law_has_tile hr (paW (takes_of rfl rfl rfl rfl)) (pa_cons (pv 4) (pa_cons (pv 12) pa_nil))))))))) (pss_one (ps_ret pe_bl)) pss_nil)
      (pss_cons (ps_if (PW.pt (pw_or (pt_cmpR (op_neD hr.units) (pe_h (E := ED E) h__law_common hr (paW (takes_of rfl rfl rfl rfl)) (pa_cons (pe_ix ix_seq (pv 7) (pe_un un_neg pe_int) (fun _ _ => rfl)) (pa_cons (pv 12) pa_nil))) (pe_callB (cr_sortedD hr.units) rfl T.n_sorted (by decide +kernel) (pa_cons (pv 11) pa_nil)) (nomark _)) (pw_or1 (pt_cmpR op_isN (pe_h (E := ED E) h__law_side_with hr (paW (takes_of rfl rfl rfl rfl)) (pa_cons (pv 12) (pa_cons (pv 11) pa_nil))) pe_non (nomark _))))) (pss_one (ps_ret pe_bl)) pss_nil)
      (pss_cons (ps_expr (pe_bm PySem.F.plainAttrs_list PySem.F.slot_list_append PySem.F.type_list_append mt_append (pv 7) (pa_cons (pv 12) pa_nil)))
      (pss_one (ps_expr (pe_bm PySem.F.plainAttrs_list PySem.F.slot_list_append PySem.F.type_list_append mt_append (pv 8) (pa_cons (pv 11) pa_nil)))))))))))
      (pss_cons (ps_set (i := 13) sc_law.nd rfl (Or.inl rfl) (pe_ix ix_seq (pv 7) (pe_un un_neg pe_int) (fun _ _ => rfl)))
      (pss_cons (ps_for (passes_of rfl) rfl (pi_range1 rfl T.n_range (pa_cons (pv 2) pa_nil)) (pg_name (i := 9) sc_law.nd rfl (Or.inl rfl)) (pss_cons (ps_set (i := 13) sc_law.nd rfl (Or.inl rfl) (pe_hm (E := ED E) h_Floor_across T.c_Floor hr (paW (takes_of rfl rfl rfl rfl)) (pv 5) (pa_cons (pv 13) (pa_cons (pe_h (E := ED E) h__law_side_with hr (paW (takes_of rfl rfl rfl rfl)) (pa_cons (pv 13) (pa_cons (pe_ix ix_seq (pv 8) (pe_op op_sub (pe_op op_sub (pv 2) pe_int) (pv 9)) (fun _ _ => rfl)) pa_nil))) pa_nil))))
      (pss_one (ps_if (pt_cmpR (op_neD hr.units) (pv 13) (pe_ix ix_seq (pv 7) (pe_op op_sub (pe_op op_sub (pv 2) pe_int) (pv 9)) (fun _ _ => rfl)) (nomark _)) (pss_one (ps_ret pe_bl)) pss_nil))))
      (pss_cons (ps_set (i := 14) sc_law.nd rfl (Or.inl rfl) (pe_ix ix_seq (pe_h (E := ED E) h__law_ends hr (paW (takes_of rfl rfl rfl rfl)) (pa_cons (pe_ix ix_seq (pv 7) (pe_un un_neg pe_int) (fun _ _ => rfl)) pa_nil)) (pe_h (E := ED E) h__law_draw hr (paW (takes_of rfl rfl rfl rfl)) (pa_cons (pv 1) (pa_cons pe_int pa_nil))) (fun _ _ => rfl)))
      (pss_one (ps_ret (pe_h (E := ED E) h__law_round hr (paW (takes_of rfl rfl rfl rfl)) (pa_cons (pv 5) (pa_cons (pe_ix ix_seq (pv 7) (pe_un un_neg pe_int) (fun _ _ => rfl)) (pa_cons (pv 14) pa_nil)))))))))))))))))), ?_⟩
    try simp only [cxOf]
    obtain ⟨a, ns, rfl, hs, q⟩ := h
    walk_at "W"
    refine ⟨a, ns, rfl, hs, fun st sc H1 hst s1 hst1 => ?_⟩
    walk_at "W"
    refine k_draw' hst1 (by decide) (by decide) fun mn H2 mn0 mn1 x2 hst2 => ?_
    walk_at "W"
    refine ⟨st, sc, rfl, hst2, fun pc c H4 x4 hst4 hc wc => ?_⟩
    have wc1 := c4_84 wc
    walk_at "W"
    refine ⟨st, sc, rfl, hst4, fun u px py t r b t' r' b' H5 x5 hst5 eu h1 h2 pb pb' w1 w2 w3 w4 w5 w6 ins nb => ?_⟩
    have hc := (Kps.st hst4 x5).tup hc
    have u63 : ∀ {x : Int}, Bw 62 x → Bw 63 x := fun h => h.mono (by decide)
    walk_at "W"
    refine ⟨pc, c, u, px, py, t, r, b, t', r', b', rfl, hc, c4_200 wc1, eu, h1, h2, u63 w3, u63 w4, w1, u63 w5, u63 w6, w2, fun ws q1 q2 H6 s6 ew g1 g2 => ?_⟩
    have sb := sh_of wc1 pb pb' w1 w2 w3 w4 w5 w6 nb
    have self := has_self (t := t) (r := r) (b := b) (t' := t') (r' := r') (b' := b') c ins
    have hst6 := hst5.same s6
    have hc := s6 _ _ hc
    have shp : ShAt H6 ws _ _ _ _ _ _ := ⟨q1, q2, ew, g1, g2⟩
    generalize minus.t (2 * (conj c).a) ((conj c).b - (conj c).d) 2 t r b = T0 at *
    generalize minus.r (2 * (conj c).a) ((conj c).b - (conj c).d) 2 t r b = R0 at *
    generalize minus.b (2 * (conj c).a) ((conj c).b - (conj c).d) 2 t r b = B0 at *
    generalize minus.t (2 * (conj c).c) ((conj c).b + (conj c).d) 2 t' r' b' = T1 at *
    generalize minus.r (2 * (conj c).c) ((conj c).b + (conj c).d) 2 t' r' b' = R1 at *
    generalize minus.b (2 * (conj c).c) ((conj c).b + (conj c).d) 2 t' r' b' = B1 at *
    walk_at "W"
    refine ⟨ws, T0, R0, B0, T1, R1, B1, rfl, shp, sb, fun vf H10 S10 hf => ?_⟩
    have hst10 := hst6.same S10
    have hc := S10 _ _ hc
    have shp := shp.kps (Kps.same S10)
    have hf0 := hf
    obtain ⟨af, dxf, uu, gg, vx, vy, Bf, X1, X2, Y1, Y2, rfl, ef, -⟩ := hf0
    have l1 := (low_is (t := T0) (r := R0) (b := B0) (by have := sb.p; omega)).pos
    have l2 := (low_is (t := T1) (r := R1) (b := B1) (by have := sb.p'; omega)).pos
    have lo : hasB (lowT T0 R0 B0) (lowR T0 R0 B0) (lowB T0 R0 B0) (lowT T1 R1 B1) (lowR T1 R1 B1) (lowB T1 R1 B1) = hasB T0 R0 B0 T1 R1 B1 := funext (has_low sb.p sb.p')
    have G := geoS hf sb
    have gapf : ∀ c, hasB T0 R0 B0 T1 R1 B1 c = true → Gap (hasB T0 R0 B0 T1 R1 B1) c := fun c y => gapF hf sb.p sb.p' y
    have gp := gapf c self
    have meth : ∀ {m : Str} {H' : Hp} {N : Hp → Prop}, Kps H10 H' → (m == ("shift" : Str)) = false → (m == ("_gauge" : Str)) = false → N H' → MethP Z.c_Floor m (.ref af) H' N := fun {m H' N} k n1 n2 hn => k_meth (k _ _ (by intro xs z; cases z) ef) (ff_none n1 n2) hn
    walk_at "W"
    refine ⟨ws, pc, c, T0, R0, B0, T1, R1, B1, rfl, shp, sb, hc, wc.mono (by decide), fun ut vs H11 hut s11 et ts => ?_⟩
    have l8 := sidesF_len (f := hasB T0 R0 B0 T1 R1 B1) (c := c) (n := 8)
    have l3 := (sidesF_next gp).1
    have lv : vs.length = (sidesF (hasB T0 R0 B0 T1 R1 B1) c 8).length := by rw [ts.len, tilesF_len]
    have hst11 := hst10.same s11
    walk_at "W"
    refine w_lenL (SqL.of et) ?_
    walk_at "W"
    refine ⟨st, sc, _, rfl, hst11, by omega, Nat.lt_of_le_of_lt (m := 8) (by omega) (by decide), fun m H12 m0 m1 x12 hst12 => ?_⟩
    have nut := hst10.new hut
    have et12 := x12 _ _ nut.1 et
    obtain ⟨y, hy⟩ : ∃ y, vs[m.toNat]? = some y := ⟨_, List.getElem?_eq_getElem (by omega)⟩
    obtain ⟨tt, htt, hty⟩ := (ts.kpt (Kpt.kps (Kps.st hst11 x12))).get hy
    obtain ⟨d, e, hd, he, rfl⟩ := tilesF_get htt
    obtain ⟨d0, d7, e0, e7, ne, okt⟩ := okT_of G gp self hd he
    have wb : C4.bw 86 (betT c d e).1 := bet_bw d0 d7 e0 e7 wc
    refine w_ixL et12 (show atI vs m = some y by
      rw [show m = ((m.toNat : Nat) : Int) by omega]
      exact atI_nat hy) ?_
    generalize betT c d e = tt0 at *
    walk_at "W"
    refine k_lst rfl fun uw H13 huw s13 ew13 => ?_
    have hst13 := hst12.same s13
    have nuw := hst12.new huw
    walk_at "W"
    refine k_lst rfl fun up H14 hup s14 ep14 => ?_
    have hst14 := hst13.same s14
    have nup := hst13.new hup
    have nwp : uw ≠ up := fun z => by rw [z, hup] at ew13; cases ew13
    have K14 : Kps H10 H14 := (Kps.same s11).trans ((Kps.st hst11 x12).trans ((Kps.same s13).trans (Kps.same s14)))
    have hty14 := (hty.same s13).same s14
    walk_at "W"
    refine k_forR (n := mn) (fun k σ' H' => ∃ vs ps ts ks z9 z10 z11 z12, σ' = [some (.ref a), some (.ref st), some (.int mn), some (.ref pc), some (.ref ws), some (.ref af), some (.ref ut), some (.ref uw), some (.ref up), z9, z10, z11, z12, none, none] ∧ Kps H10 H' ∧ StA H' st sc ∧ H' uw = some (.lst vs) ∧ TsAt H' vs ((List.range (k + 1)).map ts) ∧ H' up = some (.lst ps) ∧ PsAt H' st uw up ps ts ks k ∧ WayOk (hasB T0 R0 B0 T1 R1 B1) k ts ks 86) (by omega) (by omega) ⟨[y], [], fun _ => tt0, fun _ => 0, none, none, none, none, rfl, K14, hst14, s14 _ _ ew13, ⟨hty14, trivial⟩, ep14, ⟨rfl, fun m hm => absurd hm (Nat.not_lt_zero m)⟩, ⟨fun m hm => ⟨okt, wb.mono (by omega)⟩, fun m hm => absurd hm (Nat.not_lt_zero m)⟩⟩ ?_ ?_
    · rintro k σ' H15 hk ⟨vs, ps, ts, ks, z9, z10, z11, z12, rfl, K15, hst15, ew15, ts15, ep15, ps15, wy⟩
      have hk8 : k < 8 := by omega
      obtain ⟨okk, wk⟩ := wy.1 k (Nat.le_refl _)
      have ln := ts15.len
      rw [List.length_map, List.length_range] at ln
      obtain ⟨v, hv, tv⟩ := ts15.at' (rng_get ts (show k < k + 1 by omega))
      have ix := atI_lastN ln hv
      walk_at "W"
      refine k_draw' hst15 (by decide) (by decide) fun s H16 s0 s3 x16 hst16 => ?_
      have K16 := K15.trans (Kps.st hst15 x16)
      have ew16 := x16 _ _ nuw.1 ew15
      have ep16 := x16 _ _ nup.1 ep15
      have tv16 := tv.kps (Kps.st hst15 x16)
      walk_at "W"
      refine w_ixL ew16 ix ?_
      walk_at "W"
      refine ⟨v, _, _, _, s, rfl, tv16, okk.i0, okk.ij, okk.j3, s0, by omega, fun ue p1 p2 H17 hue s17 ee c1 c2 => ?_⟩
      have K17 := K16.trans (Kps.same s17)
      walk_at "W"
      refine meth K17 (by decide +kernel) (by decide +kernel) ?_
      walk_at "W"
      refine w_ixL (s17 _ _ ew16) ix ?_
      walk_at "W"
      refine ⟨_, v, _, _, _, _, _, _, _, rfl, hf.kps K17, l1, l2, .inr ⟨_, _, _, tv16.same s17, okk.i0, okk.ij, okk.j3, wk.mono (by omega), .inr ⟨by rw [lo]; exact okk.al, (Plain.int _).thI, .inr ⟨s, rfl, s0, by omega, fun ul x H18 s18 tx ac => ?_⟩⟩⟩⟩
      rw [lo] at ac
      obtain ⟨x0, xj, x3, alx, nx, ⟨kb, kb0, kb3, kb1, kb2⟩, ⟨ea, eb, ea0, ea7, eb0, eb7, ex1⟩, back⟩ := across_back G gapf okk.i0 okk.ij okk.j3 s0 (by omega) okk.al ac
      have okx : OkT (hasB T0 R0 B0 T1 R1 B1) x := ⟨x0, xj, x3, alx⟩
      have wx : C4.bw (86 + 3 * (k + 1)) x.1 := by
        rw [ex1]
        exact (bet_bw ea0 ea7 eb0 eb7 (startK_bw okk.i0 okk.ij okk.j3 wk)).mono (by omega)
      walk_at "W"
      refine ⟨_, _, _, _, rfl, tx, x0, xj, x3, fun H19 s19 => ?_⟩
      have S19 := s17.trans (s18.trans s19)
      walk_at "W"
      refine w_ixL (S19 _ _ ew16) ix ?_
      refine ⟨tlD3 x, tlD3 (ts k), tile_dp3 (tx.same s19), tile_dp3 (tv16.same S19), tl_shaped3 _, tl_shaped3 _, ?_⟩
      rw [tl_eqv, decide_eq_false nx]
      walk_at "W"
      refine ⟨ws, _, _, _, _, T0, R0, B0, T1, R1, B1, rfl, shp.kps (K16.trans (Kps.same S19)), sb, tx.same s19, x0, by omega, by omega, x3, wx.mono (by omega), fun H20 s20 => ?_⟩
      rw [alx]
      walk_at "W"
      have S20 := S19.trans s20
      refine w_ixL (S20 _ _ ew16) ix ?_
      walk_at "W"
      refine ⟨v, _, _, _, _, _, _, _, rfl, tv16.same S20, okk.i0, by have := okk.ij; have := okk.j3; omega, by have := okk.ij; have := okk.i0; omega, okk.j3, tx.same (s19.trans s20), x0, by omega, by omega, x3, fun um wm H21 hum s21 em cm => ?_⟩
      walk_at "W"
      have S1821 := s18.trans (s19.trans (s20.trans s21))
      refine k_sortedC (S1821 _ _ ee) (CsAt.two (c1.same S1821) (c2.same S1821)) fun us H22 wsr hus s22 es cs2 => ?_
      refine two_eqv (s22 _ _ em) es (cm.kpt (Kpt.same s22)) (by rw [sortC_perm_eq (com_perm okk okx s0 (by omega) kb0 kb3 kb1 kb2 (fun z => nx z.symm))]; exact cs2) ?_
      walk_at "W"
      refine ⟨_, ue, _, _, _, _, _, _, s, p1, p2, kb, rfl, tx.same (s19.trans (s20.trans (s21.trans s22))), x0, xj, x3, okk.i0, okk.ij, okk.j3, s22 _ _ (S1821 _ _ ee), c1.same (S1821.trans s22), c2.same (S1821.trans s22), kb0, kb3, kb1, kb2, fun H23 s23 => ?_⟩
      have S1723 := s17.trans (S1821.trans (s22.trans s23))
      have S1823 := S1821.trans (s22.trans s23)
      walk_at "W"
      refine k_bm (S1723 _ _ ew16) ?_
      walk_at "W"
      refine w_app (S1723 _ _ ew16) (few_lt (by omega)) fun H24 x24 k24 e24 => ?_
      have ep24 := x24 _ _ (Ne.symm nwp) (S1723 _ _ ep16)
      walk_at "W"
      refine k_bm ep24 ?_
      walk_at "W"
      refine w_app ep24 (few_lt (by have := ps15.1; omega)) fun H25 x25 k25 e25 => ?_
      have ks24 : Kps H23 H24 := Kps.sx (S1723 _ _ ew16) x24
      have ks25 : Kps H24 H25 := Kps.sx ep24 x25
      have nue1 := (hst16.new hue).1
      have nue2 : ue ≠ uw := fun z => by rw [z, ew16] at hue; cases hue
      have nue3 : ue ≠ up := fun z => by rw [z, ep16] at hue; cases hue
      refine ⟨vs ++ [.ref ul], ps ++ [.ref ue], fun m => if m = k + 1 then x else ts m, fun m => if m = k then s else ks m, _, _, _, _, rfl, ?_, ?_, ?_, ?_, e25, ?_, ?_⟩
      · exact K16.trans ((Kps.same S1723).trans (ks24.trans ks25))
      · exact ((hst16.same S1723).otherX nuw x24).otherX nup x25
      · exact x25 _ _ nwp e24
      · rw [List.range_succ, List.map_append, List.map_singleton, if_pos rfl]
        have em : ((List.range (k + 1)).map fun m => if m = k + 1 then x else ts m) = (List.range (k + 1)).map ts := List.map_congr_left fun m hm => if_neg (by have := List.mem_range.mp hm; omega)
        rw [em]
        have t15 := ts15.kpt ((Kpt.kps (Kps.st hst15 x16)).trans ((Kpt.same S1723).trans ((Kpt.kps ks24).trans (Kpt.kps ks25))))
        exact t15.add (((tx.same (s19.trans (s20.trans (s21.trans (s22.trans s23))))).kps ks24).kps ks25)
      · refine PsAt.add (ps15.keep (fun b o m1 m2 m3 eb => x25 _ _ m3 (x24 _ _ m2 (S1723 _ _ (x16 _ _ m1 eb)))) ((Kps.st hst15 x16).trans ((Kps.same S1723).trans (ks24.trans ks25)))) nue1 nue2 nue3 (x25 _ _ nue3 (x24 _ _ nue2 (S1823 _ _ ee))) (((c1.same S1823).kps ks24).kps ks25) (((c2.same S1823).kps ks24).kps ks25)
      · exact wy.add okx wx s0 (by omega) ac
    · rintro σ' H15 ⟨vs, ps, ts, ks, z9, z10, z11, z12, rfl, K15, hst15, ew15, ts15, ep15, ps15, wy⟩
      obtain ⟨N, rfl⟩ : ∃ N : Nat, mn = (N : Int) := ⟨mn.toNat, by omega⟩
      rw [Int.toNat_natCast] at ts15 ps15 wy
      have ln := ts15.len
      rw [List.length_map, List.length_range] at ln
      obtain ⟨v, hv, tv⟩ := ts15.at' (rng_get ts (show N < N + 1 by omega))
      have ix := atI_lastN ln hv
      walk_at "W"
      refine w_ixL ew15 ix ?_
      walk_at "W"
      refine k_forR (n := (N : Int)) (fun k σ' H' => ∃ o z9, σ' = [some (.ref a), some (.ref st), some (.int (N : Int)), some (.ref pc), some (.ref ws), some (.ref af), some (.ref ut), some (.ref uw), some (.ref up), z9, z10, z11, z12, some o, none] ∧ Same H15 H' ∧ TileAt H' o (ts (N - k)).1 (ts (N - k)).2.1 (ts (N - k)).2.2) (by omega) (by omega) ⟨v, z9, rfl, Same.refl _, tv⟩ ?_ ?_
      · rintro k σ' H16 hk ⟨o, z9, rfl, s16, to⟩
        have hkN : k < N := by omega
        obtain ⟨j, hj⟩ : ∃ j, N - k = j + 1 := ⟨N - k - 1, by omega⟩
        have hjN : j < N := by omega
        rw [hj] at to
        obtain ⟨okj, wj⟩ := wy.1 (j + 1) (by omega)
        obtain ⟨okj0, wj0⟩ := wy.1 j (by omega)
        obtain ⟨sj0, sj3, acj⟩ := wy.2 j hjN
        obtain ⟨u, p1, p2, hu, -, -, -, eu, c1, c2⟩ := ps15.2 j hjN
        obtain ⟨x0, xj, x3, alx, nx, ⟨kb, kb0, kb3, kb1, kb2⟩, -, back⟩ := across_back G gapf okj0.i0 okj0.ij okj0.j3 sj0 sj3 okj0.al acj
        have K16 := K15.trans (Kps.same s16)
        have ej : (N : Int) - 1 - (0 + (k : Int)) = ((j : Nat) : Int) := by omega
        walk_at "W"
        refine meth K16 (by decide +kernel) (by decide +kernel) ?_
        walk_at "W"
        refine w_ixL (s16 _ _ ep15) (by rw [ej]; exact atI_nat hu) ?_
        walk_at "W"
        refine ⟨o, u, _, _, _, _, _, _, _, p1, p2, kb, rfl, to, okj.i0, okj.ij, okj.j3, okj0.i0, okj0.ij, okj0.j3, s16 _ _ eu, c1.same s16, c2.same s16, kb0, kb3, kb1, kb2, fun H17 s17 => ?_⟩
        walk_at "W"
        refine ⟨_, o, _, _, _, _, _, _, _, rfl, hf.kps (K16.trans (Kps.same s17)), l1, l2, .inr ⟨_, _, _, to.same s17, okj.i0, okj.ij, okj.j3, wj.mono (by omega), .inr ⟨by rw [lo]; exact okj.al, (Plain.int _).thI, .inr ⟨kb, rfl, kb0, kb3, fun ul x H18 s18 tx ac => ?_⟩⟩⟩⟩
        rw [lo] at ac
        obtain rfl := back kb x kb1 kb2 ac
        walk_at "W"
        have S18 := s16.trans (s17.trans s18)
        obtain ⟨vj, hvj, tvj⟩ := (ts15.kpt (Kpt.same S18)).at' (rng_get ts (show j < N + 1 by omega))
        refine w_ixL (S18 _ _ ew15) (by rw [ej]; exact atI_nat hvj) ?_
        refine ⟨tlD3 (ts j), tlD3 (ts j), tile_dp3 tx, tile_dp3 tvj, tl_shaped3 _, tl_shaped3 _, ?_⟩
        rw [tl_eqv, decide_eq_true rfl]
        walk_at "W"
        refine ⟨_, _, rfl, S18, ?_⟩
        rw [show N - (k + 1) = j by omega]
        exact tx
      · rintro σ' H16 ⟨o, z9, rfl, s16, to⟩
        obtain ⟨okN, wN⟩ := wy.1 N (Nat.le_refl _)
        have K16 := K15.trans (Kps.same s16)
        walk_at "W"
        refine w_ixL (s16 _ _ ew15) ix ?_
        walk_at "W"
        refine ⟨v, _, _, _, rfl, tv.same s16, okN.i0, by have := okN.ij; have := okN.j3; omega, by have := okN.ij; have := okN.i0; omega, okN.j3, fun ue we H17 hue s17 ee ce => ?_⟩
        have hst17 := (hst15.same s16).same s17
        walk_at "W"
        refine k_draw' hst17 (by decide) (by decide) fun m H18 m0 m1 x18 hst18 => ?_
        have nue := (hst15.same s16).new hue
        have ce18 := ce.kpt (Kpt.kps (Kps.st hst17 x18))
        obtain ⟨pv, hpv⟩ : ∃ pv, we[m.toNat]? = some pv := ⟨_, List.getElem?_eq_getElem (by rw [ce.len]; show m.toNat < 4; omega)⟩
        obtain ⟨C, hC, pp, rfl, ep⟩ := ce18.get hpv
        refine w_ixL (x18 _ _ nue.1 ee) (show atI we m = some (.ref pp) by
          rw [show m = ((m.toNat : Nat) : Int) by omega]
          exact atI_nat hpv) ?_
        walk_at "W"
        have ew18 := x18 _ _ nuw.1 (s17 _ _ (s16 _ _ ew15))
        refine w_ixL ew18 ix ?_
        walk_at "W"
        have K18 := (K16.trans (Kps.same s17)).trans (Kps.st hst17 x18)
        have mC : C ∈ corsT (ts N).1 (ts N).2.1 (ts N).2.2 := List.mem_of_getElem? hC
        refine ⟨_, v, pp, C, _, ts N, _, _, _, _, _, rfl, hf.kps K18, l1, l2, by rw [lo]; exact G, by rw [lo]; exact gapf, ep, ?_, ((tv.same s16).same s17).kps (Kps.st hst17 x18), by rw [lo]; exact okN, mC, fun H19 => q H19⟩
        have := corsT_bw okN.i0 (show (ts N).2.1 ≤ 7 by have := okN.ij; have := okN.j3; omega) (show 0 ≤ (ts N).2.2 by have := okN.ij; have := okN.i0; omega) (show (ts N).2.2 ≤ 7 by have := okN.j3; omega) wN mC
        exact this.mono (by omega)
def spTop (K : PySem.W.Frag) : Sp := fun vs H Q E => ∃ (a : Addr) (ns : List Int), vs = [.ref a] ∧ SqL K H a (ns.map V.int) ∧ ∀ H', Q (.bl true) H'
theorem all_mk {P : Program} {w : World} {K : PySem.W.Frag} {h : Heap} {mg : Str → Option Value} {fa : Addr} (X : K.In h) (G : h.Ns mainGlobals mg) (hfa : mg "law" = some (.ref fa))
    {c_FloorError c_BadNumber c_BadPoint c_BadCorner c_Barred c_NoCorner c_BadTile c_NoTile c_BadSide c_Root c_Floor : Addr}
    {gAX : Addr}
{gSX : Addr}
{gMX : Addr}
{nmBadNumber qBadNumber : Str} {NBadNumber : Addr} {bsBadNumber : List Value} {snBadNumber : List Str} {subBadNumber : List Value} {abBadNumber : Bool} {colBadNumber : Option Bool} {ddBadNumber : Option Addr} {m0BadNumber m1BadNumber m2BadNumber m3BadNumber m5BadNumber : Option Value}
{nmBadPoint qBadPoint : Str} {NBadPoint : Addr} {bsBadPoint : List Value} {snBadPoint : List Str} {subBadPoint : List Value} {abBadPoint : Bool} {colBadPoint : Option Bool} {ddBadPoint : Option Addr} {m0BadPoint m1BadPoint m2BadPoint m3BadPoint m5BadPoint : Option Value}
{nmBadCorner qBadCorner : Str} {NBadCorner : Addr} {bsBadCorner : List Value} {snBadCorner : List Str} {subBadCorner : List Value} {abBadCorner : Bool} {colBadCorner : Option Bool} {ddBadCorner : Option Addr} {m0BadCorner m1BadCorner m2BadCorner m3BadCorner m5BadCorner : Option Value}
{nmBarred qBarred : Str} {NBarred : Addr} {bsBarred : List Value} {snBarred : List Str} {subBarred : List Value} {abBarred : Bool} {colBarred : Option Bool} {ddBarred : Option Addr} {m0Barred m1Barred m2Barred m3Barred m5Barred : Option Value}
{nmNoCorner qNoCorner : Str} {NNoCorner : Addr} {bsNoCorner : List Value} {snNoCorner : List Str} {subNoCorner : List Value} {abNoCorner : Bool} {colNoCorner : Option Bool} {ddNoCorner : Option Addr} {m0NoCorner m1NoCorner m2NoCorner m3NoCorner m5NoCorner : Option Value}
{nmBadTile qBadTile : Str} {NBadTile : Addr} {bsBadTile : List Value} {snBadTile : List Str} {subBadTile : List Value} {abBadTile : Bool} {colBadTile : Option Bool} {ddBadTile : Option Addr} {m0BadTile m1BadTile m2BadTile m3BadTile m5BadTile : Option Value}
{nmNoTile qNoTile : Str} {NNoTile : Addr} {bsNoTile : List Value} {snNoTile : List Str} {subNoTile : List Value} {abNoTile : Bool} {colNoTile : Option Bool} {ddNoTile : Option Addr} {m0NoTile m1NoTile m2NoTile m3NoTile m5NoTile : Option Value}
{nmBadSide qBadSide : Str} {NBadSide : Addr} {bsBadSide : List Value} {snBadSide : List Str} {subBadSide : List Value} {abBadSide : Bool} {colBadSide : Option Bool} {ddBadSide : Option Addr} {m0BadSide m1BadSide m2BadSide m3BadSide m5BadSide : Option Value}
    {f_is_integral : Addr} {od_is_integral an_is_integral : Option Addr} {sl_is_integral : Array (Option Value)} {oc_is_integral kV_is_integral dc_is_integral pm_is_integral cd_is_integral ct_is_integral : Value}
    {f_BadPoint_init : Addr} {od_BadPoint_init an_BadPoint_init : Option Addr} {sl_BadPoint_init : Array (Option Value)} {oc_BadPoint_init kV_BadPoint_init dc_BadPoint_init pm_BadPoint_init cd_BadPoint_init ct_BadPoint_init : Value}
    {f_BadCorner_init : Addr} {od_BadCorner_init an_BadCorner_init : Option Addr} {sl_BadCorner_init : Array (Option Value)} {oc_BadCorner_init kV_BadCorner_init dc_BadCorner_init pm_BadCorner_init cd_BadCorner_init ct_BadCorner_init : Value}
    {f_Barred_init : Addr} {od_Barred_init an_Barred_init : Option Addr} {sl_Barred_init : Array (Option Value)} {oc_Barred_init kV_Barred_init dc_Barred_init pm_Barred_init cd_Barred_init ct_Barred_init : Value}
    {f_NoCorner_init : Addr} {od_NoCorner_init an_NoCorner_init : Option Addr} {sl_NoCorner_init : Array (Option Value)} {oc_NoCorner_init kV_NoCorner_init dc_NoCorner_init pm_NoCorner_init cd_NoCorner_init ct_NoCorner_init : Value}
    {f_BadTile_init : Addr} {od_BadTile_init an_BadTile_init : Option Addr} {sl_BadTile_init : Array (Option Value)} {oc_BadTile_init kV_BadTile_init dc_BadTile_init pm_BadTile_init cd_BadTile_init ct_BadTile_init : Value}
    {f_NoTile_init : Addr} {od_NoTile_init an_NoTile_init : Option Addr} {sl_NoTile_init : Array (Option Value)} {oc_NoTile_init kV_NoTile_init dc_NoTile_init pm_NoTile_init cd_NoTile_init ct_NoTile_init : Value}
    {f_BadSide_init : Addr} {od_BadSide_init an_BadSide_init : Option Addr} {sl_BadSide_init : Array (Option Value)} {oc_BadSide_init kV_BadSide_init dc_BadSide_init pm_BadSide_init cd_BadSide_init ct_BadSide_init : Value}
    {f_BadNumber_init : Addr} {od_BadNumber_init an_BadNumber_init : Option Addr} {sl_BadNumber_init : Array (Option Value)} {oc_BadNumber_init kV_BadNumber_init dc_BadNumber_init pm_BadNumber_init cd_BadNumber_init ct_BadNumber_init : Value}
    {f_Root_init : Addr} {od_Root_init an_Root_init : Option Addr} {sl_Root_init : Array (Option Value)} {oc_Root_init kV_Root_init dc_Root_init pm_Root_init cd_Root_init ct_Root_init : Value}
    {f_Root_eq : Addr} {od_Root_eq an_Root_eq : Option Addr} {sl_Root_eq : Array (Option Value)} {oc_Root_eq kV_Root_eq dc_Root_eq pm_Root_eq cd_Root_eq ct_Root_eq : Value}
    {f_Root_neg : Addr} {od_Root_neg an_Root_neg : Option Addr} {sl_Root_neg : Array (Option Value)} {oc_Root_neg kV_Root_neg dc_Root_neg pm_Root_neg cd_Root_neg ct_Root_neg : Value}
    {f_is_number : Addr} {od_is_number an_is_number : Option Addr} {sl_is_number : Array (Option Value)} {oc_is_number kV_is_number dc_is_number pm_is_number cd_is_number ct_is_number : Value}
    {f_as_root : Addr} {od_as_root an_as_root : Option Addr} {sl_as_root : Array (Option Value)} {oc_as_root kV_as_root dc_as_root pm_as_root cd_as_root ct_as_root : Value}
    {f_surd_sign : Addr} {od_surd_sign an_surd_sign : Option Addr} {sl_surd_sign : Array (Option Value)} {oc_surd_sign kV_surd_sign dc_surd_sign pm_surd_sign cd_surd_sign ct_surd_sign : Value}
    {f_Root_add : Addr} {od_Root_add an_Root_add : Option Addr} {sl_Root_add : Array (Option Value)} {oc_Root_add kV_Root_add dc_Root_add pm_Root_add cd_Root_add ct_Root_add : Value}
    {f_Root_sub : Addr} {od_Root_sub an_Root_sub : Option Addr} {sl_Root_sub : Array (Option Value)} {oc_Root_sub kV_Root_sub dc_Root_sub pm_Root_sub cd_Root_sub ct_Root_sub : Value}
    {f_Root_mul : Addr} {od_Root_mul an_Root_mul : Option Addr} {sl_Root_mul : Array (Option Value)} {oc_Root_mul kV_Root_mul dc_Root_mul pm_Root_mul cd_Root_mul ct_Root_mul : Value}
    {f_Root_radd : Addr} {od_Root_radd an_Root_radd : Option Addr} {sl_Root_radd : Array (Option Value)} {oc_Root_radd kV_Root_radd dc_Root_radd pm_Root_radd cd_Root_radd ct_Root_radd : Value}
    {f_Root_rmul : Addr} {od_Root_rmul an_Root_rmul : Option Addr} {sl_Root_rmul : Array (Option Value)} {oc_Root_rmul kV_Root_rmul dc_Root_rmul pm_Root_rmul cd_Root_rmul ct_Root_rmul : Value}
    {f_Root_rsub : Addr} {od_Root_rsub an_Root_rsub : Option Addr} {sl_Root_rsub : Array (Option Value)} {oc_Root_rsub kV_Root_rsub dc_Root_rsub pm_Root_rsub cd_Root_rsub ct_Root_rsub : Value}
    {f_Root_less : Addr} {od_Root_less an_Root_less : Option Addr} {sl_Root_less : Array (Option Value)} {oc_Root_less kV_Root_less dc_Root_less pm_Root_less cd_Root_less ct_Root_less : Value}
    {f__law_start : Addr} {od__law_start an__law_start : Option Addr} {sl__law_start : Array (Option Value)} {oc__law_start kV__law_start dc__law_start pm__law_start cd__law_start ct__law_start : Value}
    {f__law_mixed : Addr} {od__law_mixed an__law_mixed : Option Addr} {sl__law_mixed : Array (Option Value)} {oc__law_mixed kV__law_mixed dc__law_mixed pm__law_mixed cd__law_mixed ct__law_mixed : Value}
    {f__law_draw : Addr} {od__law_draw an__law_draw : Option Addr} {sl__law_draw : Array (Option Value)} {oc__law_draw kV__law_draw dc__law_draw pm__law_draw cd__law_draw ct__law_draw : Value}
    {f__law_between : Addr} {od__law_between an__law_between : Option Addr} {sl__law_between : Array (Option Value)} {oc__law_between kV__law_between dc__law_between pm__law_between cd__law_between ct__law_between : Value}
    {f__law_plus : Addr} {od__law_plus an__law_plus : Option Addr} {sl__law_plus : Array (Option Value)} {oc__law_plus kV__law_plus dc__law_plus pm__law_plus cd__law_plus ct__law_plus : Value}
    {f__law_minus : Addr} {od__law_minus an__law_minus : Option Addr} {sl__law_minus : Array (Option Value)} {oc__law_minus kV__law_minus dc__law_minus pm__law_minus cd__law_minus ct__law_minus : Value}
    {f__law_sign : Addr} {od__law_sign an__law_sign : Option Addr} {sl__law_sign : Array (Option Value)} {oc__law_sign kV__law_sign dc__law_sign pm__law_sign cd__law_sign ct__law_sign : Value}
    {f_is_corner : Addr} {od_is_corner an_is_corner : Option Addr} {sl_is_corner : Array (Option Value)} {oc_is_corner kV_is_corner dc_is_corner pm_is_corner cd_is_corner ct_is_corner : Value}
    {f_check_corner : Addr} {od_check_corner an_check_corner : Option Addr} {sl_check_corner : Array (Option Value)} {oc_check_corner kV_check_corner dc_check_corner pm_check_corner cd_check_corner ct_check_corner : Value}
    {f_step : Addr} {od_step an_step : Option Addr} {sl_step : Array (Option Value)} {oc_step kV_step dc_step pm_step cd_step ct_step : Value}
    {f__law_star : Addr} {od__law_star an__law_star : Option Addr} {sl__law_star : Array (Option Value)} {oc__law_star kV__law_star dc__law_star pm__law_star cd__law_star ct__law_star : Value}
    {f__law_corner : Addr} {od__law_corner an__law_corner : Option Addr} {sl__law_corner : Array (Option Value)} {oc__law_corner kV__law_corner dc__law_corner pm__law_corner cd__law_corner ct__law_corner : Value}
    {f__law_is_corner : Addr} {od__law_is_corner an__law_is_corner : Option Addr} {sl__law_is_corner : Array (Option Value)} {oc__law_is_corner kV__law_is_corner dc__law_is_corner pm__law_is_corner cd__law_is_corner ct__law_is_corner : Value}
    {f_is_point : Addr} {od_is_point an_is_point : Option Addr} {sl_is_point : Array (Option Value)} {oc_is_point kV_is_point dc_is_point pm_is_point cd_is_point ct_is_point : Value}
    {f_as_roots : Addr} {od_as_roots an_as_roots : Option Addr} {sl_as_roots : Array (Option Value)} {oc_as_roots kV_as_roots dc_as_roots pm_as_roots cd_as_roots ct_as_roots : Value}
    {f__law_given : Addr} {od__law_given an__law_given : Option Addr} {sl__law_given : Array (Option Value)} {oc__law_given kV__law_given dc__law_given pm__law_given cd__law_given ct__law_given : Value}
    {f_check_point : Addr} {od_check_point an_check_point : Option Addr} {sl_check_point : Array (Option Value)} {oc_check_point kV_check_point dc_check_point pm_check_point cd_check_point ct_check_point : Value}
    {f_is_half : Addr} {od_is_half an_is_half : Option Addr} {sl_is_half : Array (Option Value)} {oc_is_half kV_is_half dc_is_half pm_is_half cd_is_half ct_is_half : Value}
    {f_bars_evenly : Addr} {od_bars_evenly an_bars_evenly : Option Addr} {sl_bars_evenly : Array (Option Value)} {oc_bars_evenly kV_bars_evenly dc_bars_evenly pm_bars_evenly cd_bars_evenly ct_bars_evenly : Value}
    {f_bars_oddly : Addr} {od_bars_oddly an_bars_oddly : Option Addr} {sl_bars_oddly : Array (Option Value)} {oc_bars_oddly kV_bars_oddly dc_bars_oddly pm_bars_oddly cd_bars_oddly ct_bars_oddly : Value}
    {f_barred : Addr} {od_barred an_barred : Option Addr} {sl_barred : Array (Option Value)} {oc_barred kV_barred dc_barred pm_barred cd_barred ct_barred : Value}
    {f_gauge_of : Addr} {od_gauge_of an_gauge_of : Option Addr} {sl_gauge_of : Array (Option Value)} {oc_gauge_of kV_gauge_of dc_gauge_of pm_gauge_of cd_gauge_of ct_gauge_of : Value}
    {f_beside : Addr} {od_beside an_beside : Option Addr} {sl_beside : Array (Option Value)} {oc_beside kV_beside dc_beside pm_beside cd_beside ct_beside : Value}
    {f_in_window : Addr} {od_in_window an_in_window : Option Addr} {sl_in_window : Array (Option Value)} {oc_in_window kV_in_window dc_in_window pm_in_window cd_in_window ct_in_window : Value}
    {f_Floor_init : Addr} {od_Floor_init an_Floor_init : Option Addr} {sl_Floor_init : Array (Option Value)} {oc_Floor_init kV_Floor_init dc_Floor_init pm_Floor_init cd_Floor_init ct_Floor_init : Value}
    {f_Floor_has_corner : Addr} {od_Floor_has_corner an_Floor_has_corner : Option Addr} {sl_Floor_has_corner : Array (Option Value)} {oc_Floor_has_corner kV_Floor_has_corner dc_Floor_has_corner pm_Floor_has_corner cd_Floor_has_corner ct_Floor_has_corner : Value}
    {f__law_lines : Addr} {od__law_lines an__law_lines : Option Addr} {sl__law_lines : Array (Option Value)} {oc__law_lines kV__law_lines dc__law_lines pm__law_lines cd__law_lines ct__law_lines : Value}
    {f__law_inside : Addr} {od__law_inside an__law_inside : Option Addr} {sl__law_inside : Array (Option Value)} {oc__law_inside kV__law_inside dc__law_inside pm__law_inside cd__law_inside ct__law_inside : Value}
    {f__law_is_odd_half : Addr} {od__law_is_odd_half an__law_is_odd_half : Option Addr} {sl__law_is_odd_half : Array (Option Value)} {oc__law_is_odd_half kV__law_is_odd_half dc__law_is_odd_half pm__law_is_odd_half cd__law_is_odd_half ct__law_is_odd_half : Value}
    {f__law_barred : Addr} {od__law_barred an__law_barred : Option Addr} {sl__law_barred : Array (Option Value)} {oc__law_barred kV__law_barred dc__law_barred pm__law_barred cd__law_barred ct__law_barred : Value}
    {f__law_spot : Addr} {od__law_spot an__law_spot : Option Addr} {sl__law_spot : Array (Option Value)} {oc__law_spot kV__law_spot dc__law_spot pm__law_spot cd__law_spot ct__law_spot : Value}
    {f__law_shift : Addr} {od__law_shift an__law_shift : Option Addr} {sl__law_shift : Array (Option Value)} {oc__law_shift kV__law_shift dc__law_shift pm__law_shift cd__law_shift ct__law_shift : Value}
    {f__law_has : Addr} {od__law_has an__law_has : Option Addr} {sl__law_has : Array (Option Value)} {oc__law_has kV__law_has dc__law_has pm__law_has cd__law_has ct__law_has : Value}
    {f_Floorways : Addr} {od_Floorways an_Floorways : Option Addr} {sl_Floorways : Array (Option Value)} {oc_Floorways kV_Floorways dc_Floorways pm_Floorways cd_Floorways ct_Floorways : Value}
    {f_Floor_sides : Addr} {od_Floor_sides an_Floor_sides : Option Addr} {sl_Floor_sides : Array (Option Value)} {oc_Floor_sides kV_Floor_sides dc_Floor_sides pm_Floor_sides cd_Floor_sides ct_Floor_sides : Value}
    {f__law_step : Addr} {od__law_step an__law_step : Option Addr} {sl__law_step : Array (Option Value)} {oc__law_step kV__law_step dc__law_step pm__law_step cd__law_step ct__law_step : Value}
    {f__law_sides : Addr} {od__law_sides an__law_sides : Option Addr} {sl__law_sides : Array (Option Value)} {oc__law_sides kV__law_sides dc__law_sides pm__law_sides cd__law_sides ct__law_sides : Value}
    {f__law_floor : Addr} {od__law_floor an__law_floor : Option Addr} {sl__law_floor : Array (Option Value)} {oc__law_floor kV__law_floor dc__law_floor pm__law_floor cd__law_floor ct__law_floor : Value}
    {f_is_tile : Addr} {od_is_tile an_is_tile : Option Addr} {sl_is_tile : Array (Option Value)} {oc_is_tile kV_is_tile dc_is_tile pm_is_tile cd_is_tile ct_is_tile : Value}
    {f_check_tile : Addr} {od_check_tile an_check_tile : Option Addr} {sl_check_tile : Array (Option Value)} {oc_check_tile kV_check_tile dc_check_tile pm_check_tile cd_check_tile ct_check_tile : Value}
    {f_tile_corners : Addr} {od_tile_corners an_tile_corners : Option Addr} {sl_tile_corners : Array (Option Value)} {oc_tile_corners kV_tile_corners dc_tile_corners pm_tile_corners cd_tile_corners ct_tile_corners : Value}
    {f_Floor_has_tile : Addr} {od_Floor_has_tile an_Floor_has_tile : Option Addr} {sl_Floor_has_tile : Array (Option Value)} {oc_Floor_has_tile kV_Floor_has_tile dc_Floor_has_tile pm_Floor_has_tile cd_Floor_has_tile ct_Floor_has_tile : Value}
    {f__law_ends : Addr} {od__law_ends an__law_ends : Option Addr} {sl__law_ends : Array (Option Value)} {oc__law_ends kV__law_ends dc__law_ends pm__law_ends cd__law_ends ct__law_ends : Value}
    {f__law_has_tile : Addr} {od__law_has_tile an__law_has_tile : Option Addr} {sl__law_has_tile : Array (Option Value)} {oc__law_has_tile kV__law_has_tile dc__law_has_tile pm__law_has_tile cd__law_has_tile ct__law_has_tile : Value}
    {f__law_tile_between : Addr} {od__law_tile_between an__law_tile_between : Option Addr} {sl__law_tile_between : Array (Option Value)} {oc__law_tile_between kV__law_tile_between dc__law_tile_between pm__law_tile_between cd__law_tile_between ct__law_tile_between : Value}
    {f__law_tiles_at : Addr} {od__law_tiles_at an__law_tiles_at : Option Addr} {sl__law_tiles_at : Array (Option Value)} {oc__law_tiles_at kV__law_tiles_at dc__law_tiles_at pm__law_tiles_at cd__law_tiles_at ct__law_tiles_at : Value}
    {f_tile_between : Addr} {od_tile_between an_tile_between : Option Addr} {sl_tile_between : Array (Option Value)} {oc_tile_between kV_tile_between dc_tile_between pm_tile_between cd_tile_between ct_tile_between : Value}
    {f_Floor_tiles_at : Addr} {od_Floor_tiles_at an_Floor_tiles_at : Option Addr} {sl_Floor_tiles_at : Array (Option Value)} {oc_Floor_tiles_at kV_Floor_tiles_at dc_Floor_tiles_at pm_Floor_tiles_at cd_Floor_tiles_at ct_Floor_tiles_at : Value}
    {f_Floor_across : Addr} {od_Floor_across an_Floor_across : Option Addr} {sl_Floor_across : Array (Option Value)} {oc_Floor_across kV_Floor_across dc_Floor_across pm_Floor_across cd_Floor_across ct_Floor_across : Value}
    {f__law_is_tile : Addr} {od__law_is_tile an__law_is_tile : Option Addr} {sl__law_is_tile : Array (Option Value)} {oc__law_is_tile kV__law_is_tile dc__law_is_tile pm__law_is_tile cd__law_is_tile ct__law_is_tile : Value}
    {f__law_side_ends : Addr} {od__law_side_ends an__law_side_ends : Option Addr} {sl__law_side_ends : Array (Option Value)} {oc__law_side_ends kV__law_side_ends dc__law_side_ends pm__law_side_ends cd__law_side_ends ct__law_side_ends : Value}
    {f__law_side_with : Addr} {od__law_side_with an__law_side_with : Option Addr} {sl__law_side_with : Array (Option Value)} {oc__law_side_with kV__law_side_with dc__law_side_with pm__law_side_with cd__law_side_with ct__law_side_with : Value}
    {f__law_common : Addr} {od__law_common an__law_common : Option Addr} {sl__law_common : Array (Option Value)} {oc__law_common kV__law_common dc__law_common pm__law_common cd__law_common ct__law_common : Value}
    {f__law_round : Addr} {od__law_round an__law_round : Option Addr} {sl__law_round : Array (Option Value)} {oc__law_round kV__law_round dc__law_round pm__law_round cd__law_round ct__law_round : Value}
    {f_law : Addr} {od_law an_law : Option Addr} {sl_law : Array (Option Value)} {oc_law kV_law dc_law pm_law cd_law ct_law : Value}
    (r_FloorError : PySem.W.nsIn K mainGlobals "FloorError" = some (some (.ref c_FloorError)))
    (r_BadNumber : PySem.W.nsIn K mainGlobals "BadNumber" = some (some (.ref c_BadNumber)))
    (r_BadPoint : PySem.W.nsIn K mainGlobals "BadPoint" = some (some (.ref c_BadPoint)))
    (r_BadCorner : PySem.W.nsIn K mainGlobals "BadCorner" = some (some (.ref c_BadCorner)))
    (r_Barred : PySem.W.nsIn K mainGlobals "Barred" = some (some (.ref c_Barred)))
    (r_NoCorner : PySem.W.nsIn K mainGlobals "NoCorner" = some (some (.ref c_NoCorner)))
    (r_BadTile : PySem.W.nsIn K mainGlobals "BadTile" = some (some (.ref c_BadTile)))
    (r_NoTile : PySem.W.nsIn K mainGlobals "NoTile" = some (some (.ref c_NoTile)))
    (r_BadSide : PySem.W.nsIn K mainGlobals "BadSide" = some (some (.ref c_BadSide)))
    (r_Root : PySem.W.nsIn K mainGlobals "Root" = some (some (.ref c_Root)))
    (r_Floor : PySem.W.nsIn K mainGlobals "Floor" = some (some (.ref c_Floor)))
    (r_gcd : PySem.W.nsIn K mainGlobals "gcd" = some (some (.builtin "math.gcd")))
    (r_lcm : PySem.W.nsIn K mainGlobals "lcm" = some (some (.builtin "math.lcm")))
    (r_isinstance : PySem.W.nsIn K mainGlobals "isinstance" = some none)
    (r_list : PySem.W.nsIn K mainGlobals "list" = some none)
    (r_int : PySem.W.nsIn K mainGlobals "int" = some none)
    (r_range : PySem.W.nsIn K mainGlobals "range" = some none)
    (r_len : PySem.W.nsIn K mainGlobals "len" = some none)
    (r_abs : PySem.W.nsIn K mainGlobals "abs" = some none)
    (r_sorted : PySem.W.nsIn K mainGlobals "sorted" = some none)
    (r_all : PySem.W.nsIn K mainGlobals "all" = some none)
    (r_tuple : PySem.W.nsIn K mainGlobals "tuple" = some none)
    (r_bool : PySem.W.nsIn K mainGlobals "bool" = some none)
    (r_enumerate : PySem.W.nsIn K mainGlobals "enumerate" = some none)
    (r_zip : PySem.W.nsIn K mainGlobals "zip" = some none)
    (r_pg : PySem.W.plainGet K c_Root Str.empty = true)
    (r_hd : PySem.W.hasDictIn K c_Root = true)
    (r_po : PySem.W.plainOver K c_Root = true)
    (r_sa : PySem.W.findIn K (.ref c_Root) "__setattr__" = some (some (.builtin "object.__setattr__")))
    (r_ca : PySem.W.findIn K (.ref c_Root) "__class__" = some (some (.builtin "object.__class__")))
    (r_hm : PySem.W.mroIn K c_Root (.type "object") = some true)
    (r_ic : PySem.W.isClsIn K c_Root = true)
    (r_tc : PySem.W.typeIn K (.ref c_Root) = some (.type "type"))
    (r_s1 : PySem.W.mroIn K c_Root (.type "int") = some false)
    (r_s2 : PySem.W.mroIn K c_Root (.type "bool") = some false)
    (r_nt : PySem.W.findIn K (.ref c_Root) "top" = some none)
    (r_nr : PySem.W.findIn K (.ref c_Root) "root" = some none)
    (r_nb : PySem.W.findIn K (.ref c_Root) "bottom" = some none)
    (r_sf : PySem.W.selfFirst K c_Root = true)
    (r_ra : PySem.W.findIn K (.ref c_Root) "__radd__" = some (some (.ref gAX)))
    (r_rs : PySem.W.findIn K (.ref c_Root) "__rsub__" = some (some (.ref gSX)))
    (r_rm : PySem.W.findIn K (.ref c_Root) "__rmul__" = some (some (.ref gMX)))
    (o_pg_Floor : PySem.W.plainGet K c_Floor Str.empty = true)
    (o_hd_Floor : PySem.W.hasDictIn K c_Floor = true)
    (o_po_Floor : PySem.W.plainOver K c_Floor = true)
    (o_sa_Floor : PySem.W.findIn K (.ref c_Floor) "__setattr__" = some (some (.builtin "object.__setattr__")))
    (o_nf_Floor_shift : PySem.W.findIn K (.ref c_Floor) "shift" = some none)
    (o_nf_Floor__gauge : PySem.W.findIn K (.ref c_Floor) "_gauge" = some none)
    (e_L_BadNumber : K.lookup c_BadNumber = some (excClassObj nmBadNumber qBadNumber c_BadNumber NBadNumber bsBadNumber [.ref c_FloorError, .type "ValueError", .type "Exception", .type "BaseException", .type "object"] true snBadNumber subBadNumber abBadNumber colBadNumber ddBadNumber m0BadNumber m1BadNumber m2BadNumber m3BadNumber m5BadNumber "ValueError.__new__"))
    (e_sa_BadNumber : PySem.W.findIn K (.ref c_BadNumber) "__setattr__" = some (some (.builtin "object.__setattr__")))
    (e_e_BadNumber : PySem.W.mroIn K c_BadNumber (.type "BaseException") = some true)
    (e_t_BadNumber : PySem.W.typeIn K (.ref c_BadNumber) = some (.type "type"))
    (e_k_BadNumber : PySem.W.keepIn K (.ref c_BadNumber) = true)
    (e_n_BadNumber : PySem.W.findIn K (.ref c_BadNumber) "value" = some none)
    (e_ga_BadNumber : PySem.W.findIn K (.ref c_BadNumber) "__getattribute__" = some (some (.builtin "BaseException.__getattribute__")))
    (e_gg_BadNumber : PySem.W.findIn K (.ref c_BadNumber) "__getattr__" = some none)
    (e_hd_BadNumber : PySem.W.hasDictIn K c_BadNumber = true)
    (e_ic_BadNumber : PySem.W.isClsIn K c_BadNumber = true)
    (e_s_BadNumber : PySem.W.mroIn K c_BadNumber (.ref c_BadNumber) = some true)
    (e_L_BadPoint : K.lookup c_BadPoint = some (excClassObj nmBadPoint qBadPoint c_BadPoint NBadPoint bsBadPoint [.ref c_FloorError, .type "ValueError", .type "Exception", .type "BaseException", .type "object"] true snBadPoint subBadPoint abBadPoint colBadPoint ddBadPoint m0BadPoint m1BadPoint m2BadPoint m3BadPoint m5BadPoint "ValueError.__new__"))
    (e_sa_BadPoint : PySem.W.findIn K (.ref c_BadPoint) "__setattr__" = some (some (.builtin "object.__setattr__")))
    (e_e_BadPoint : PySem.W.mroIn K c_BadPoint (.type "BaseException") = some true)
    (e_t_BadPoint : PySem.W.typeIn K (.ref c_BadPoint) = some (.type "type"))
    (e_k_BadPoint : PySem.W.keepIn K (.ref c_BadPoint) = true)
    (e_n_BadPoint : PySem.W.findIn K (.ref c_BadPoint) "point" = some none)
    (e_ga_BadPoint : PySem.W.findIn K (.ref c_BadPoint) "__getattribute__" = some (some (.builtin "BaseException.__getattribute__")))
    (e_gg_BadPoint : PySem.W.findIn K (.ref c_BadPoint) "__getattr__" = some none)
    (e_hd_BadPoint : PySem.W.hasDictIn K c_BadPoint = true)
    (e_ic_BadPoint : PySem.W.isClsIn K c_BadPoint = true)
    (e_s_BadPoint : PySem.W.mroIn K c_BadPoint (.ref c_BadPoint) = some true)
    (e_L_BadCorner : K.lookup c_BadCorner = some (excClassObj nmBadCorner qBadCorner c_BadCorner NBadCorner bsBadCorner [.ref c_FloorError, .type "ValueError", .type "Exception", .type "BaseException", .type "object"] true snBadCorner subBadCorner abBadCorner colBadCorner ddBadCorner m0BadCorner m1BadCorner m2BadCorner m3BadCorner m5BadCorner "ValueError.__new__"))
    (e_sa_BadCorner : PySem.W.findIn K (.ref c_BadCorner) "__setattr__" = some (some (.builtin "object.__setattr__")))
    (e_e_BadCorner : PySem.W.mroIn K c_BadCorner (.type "BaseException") = some true)
    (e_t_BadCorner : PySem.W.typeIn K (.ref c_BadCorner) = some (.type "type"))
    (e_k_BadCorner : PySem.W.keepIn K (.ref c_BadCorner) = true)
    (e_n_BadCorner : PySem.W.findIn K (.ref c_BadCorner) "corner" = some none)
    (e_ga_BadCorner : PySem.W.findIn K (.ref c_BadCorner) "__getattribute__" = some (some (.builtin "BaseException.__getattribute__")))
    (e_gg_BadCorner : PySem.W.findIn K (.ref c_BadCorner) "__getattr__" = some none)
    (e_hd_BadCorner : PySem.W.hasDictIn K c_BadCorner = true)
    (e_ic_BadCorner : PySem.W.isClsIn K c_BadCorner = true)
    (e_s_BadCorner : PySem.W.mroIn K c_BadCorner (.ref c_BadCorner) = some true)
    (e_L_Barred : K.lookup c_Barred = some (excClassObj nmBarred qBarred c_Barred NBarred bsBarred [.ref c_FloorError, .type "ValueError", .type "Exception", .type "BaseException", .type "object"] true snBarred subBarred abBarred colBarred ddBarred m0Barred m1Barred m2Barred m3Barred m5Barred "ValueError.__new__"))
    (e_sa_Barred : PySem.W.findIn K (.ref c_Barred) "__setattr__" = some (some (.builtin "object.__setattr__")))
    (e_e_Barred : PySem.W.mroIn K c_Barred (.type "BaseException") = some true)
    (e_t_Barred : PySem.W.typeIn K (.ref c_Barred) = some (.type "type"))
    (e_k_Barred : PySem.W.keepIn K (.ref c_Barred) = true)
    (e_n_Barred : PySem.W.findIn K (.ref c_Barred) "direction" = some none)
    (e_ga_Barred : PySem.W.findIn K (.ref c_Barred) "__getattribute__" = some (some (.builtin "BaseException.__getattribute__")))
    (e_gg_Barred : PySem.W.findIn K (.ref c_Barred) "__getattr__" = some none)
    (e_hd_Barred : PySem.W.hasDictIn K c_Barred = true)
    (e_ic_Barred : PySem.W.isClsIn K c_Barred = true)
    (e_s_Barred : PySem.W.mroIn K c_Barred (.ref c_Barred) = some true)
    (e_L_NoCorner : K.lookup c_NoCorner = some (excClassObj nmNoCorner qNoCorner c_NoCorner NNoCorner bsNoCorner [.ref c_FloorError, .type "ValueError", .type "Exception", .type "BaseException", .type "object"] true snNoCorner subNoCorner abNoCorner colNoCorner ddNoCorner m0NoCorner m1NoCorner m2NoCorner m3NoCorner m5NoCorner "ValueError.__new__"))
    (e_sa_NoCorner : PySem.W.findIn K (.ref c_NoCorner) "__setattr__" = some (some (.builtin "object.__setattr__")))
    (e_e_NoCorner : PySem.W.mroIn K c_NoCorner (.type "BaseException") = some true)
    (e_t_NoCorner : PySem.W.typeIn K (.ref c_NoCorner) = some (.type "type"))
    (e_k_NoCorner : PySem.W.keepIn K (.ref c_NoCorner) = true)
    (e_n_NoCorner : PySem.W.findIn K (.ref c_NoCorner) "corner" = some none)
    (e_ga_NoCorner : PySem.W.findIn K (.ref c_NoCorner) "__getattribute__" = some (some (.builtin "BaseException.__getattribute__")))
    (e_gg_NoCorner : PySem.W.findIn K (.ref c_NoCorner) "__getattr__" = some none)
    (e_hd_NoCorner : PySem.W.hasDictIn K c_NoCorner = true)
    (e_ic_NoCorner : PySem.W.isClsIn K c_NoCorner = true)
    (e_s_NoCorner : PySem.W.mroIn K c_NoCorner (.ref c_NoCorner) = some true)
    (e_L_BadTile : K.lookup c_BadTile = some (excClassObj nmBadTile qBadTile c_BadTile NBadTile bsBadTile [.ref c_FloorError, .type "ValueError", .type "Exception", .type "BaseException", .type "object"] true snBadTile subBadTile abBadTile colBadTile ddBadTile m0BadTile m1BadTile m2BadTile m3BadTile m5BadTile "ValueError.__new__"))
    (e_sa_BadTile : PySem.W.findIn K (.ref c_BadTile) "__setattr__" = some (some (.builtin "object.__setattr__")))
    (e_e_BadTile : PySem.W.mroIn K c_BadTile (.type "BaseException") = some true)
    (e_t_BadTile : PySem.W.typeIn K (.ref c_BadTile) = some (.type "type"))
    (e_k_BadTile : PySem.W.keepIn K (.ref c_BadTile) = true)
    (e_n_BadTile : PySem.W.findIn K (.ref c_BadTile) "tile" = some none)
    (e_ga_BadTile : PySem.W.findIn K (.ref c_BadTile) "__getattribute__" = some (some (.builtin "BaseException.__getattribute__")))
    (e_gg_BadTile : PySem.W.findIn K (.ref c_BadTile) "__getattr__" = some none)
    (e_hd_BadTile : PySem.W.hasDictIn K c_BadTile = true)
    (e_ic_BadTile : PySem.W.isClsIn K c_BadTile = true)
    (e_s_BadTile : PySem.W.mroIn K c_BadTile (.ref c_BadTile) = some true)
    (e_L_NoTile : K.lookup c_NoTile = some (excClassObj nmNoTile qNoTile c_NoTile NNoTile bsNoTile [.ref c_FloorError, .type "ValueError", .type "Exception", .type "BaseException", .type "object"] true snNoTile subNoTile abNoTile colNoTile ddNoTile m0NoTile m1NoTile m2NoTile m3NoTile m5NoTile "ValueError.__new__"))
    (e_sa_NoTile : PySem.W.findIn K (.ref c_NoTile) "__setattr__" = some (some (.builtin "object.__setattr__")))
    (e_e_NoTile : PySem.W.mroIn K c_NoTile (.type "BaseException") = some true)
    (e_t_NoTile : PySem.W.typeIn K (.ref c_NoTile) = some (.type "type"))
    (e_k_NoTile : PySem.W.keepIn K (.ref c_NoTile) = true)
    (e_n_NoTile : PySem.W.findIn K (.ref c_NoTile) "tile" = some none)
    (e_ga_NoTile : PySem.W.findIn K (.ref c_NoTile) "__getattribute__" = some (some (.builtin "BaseException.__getattribute__")))
    (e_gg_NoTile : PySem.W.findIn K (.ref c_NoTile) "__getattr__" = some none)
    (e_hd_NoTile : PySem.W.hasDictIn K c_NoTile = true)
    (e_ic_NoTile : PySem.W.isClsIn K c_NoTile = true)
    (e_s_NoTile : PySem.W.mroIn K c_NoTile (.ref c_NoTile) = some true)
    (e_L_BadSide : K.lookup c_BadSide = some (excClassObj nmBadSide qBadSide c_BadSide NBadSide bsBadSide [.ref c_FloorError, .type "ValueError", .type "Exception", .type "BaseException", .type "object"] true snBadSide subBadSide abBadSide colBadSide ddBadSide m0BadSide m1BadSide m2BadSide m3BadSide m5BadSide "ValueError.__new__"))
    (e_sa_BadSide : PySem.W.findIn K (.ref c_BadSide) "__setattr__" = some (some (.builtin "object.__setattr__")))
    (e_e_BadSide : PySem.W.mroIn K c_BadSide (.type "BaseException") = some true)
    (e_t_BadSide : PySem.W.typeIn K (.ref c_BadSide) = some (.type "type"))
    (e_k_BadSide : PySem.W.keepIn K (.ref c_BadSide) = true)
    (e_n_BadSide : PySem.W.findIn K (.ref c_BadSide) "side" = some none)
    (e_ga_BadSide : PySem.W.findIn K (.ref c_BadSide) "__getattribute__" = some (some (.builtin "BaseException.__getattribute__")))
    (e_gg_BadSide : PySem.W.findIn K (.ref c_BadSide) "__getattr__" = some none)
    (e_hd_BadSide : PySem.W.hasDictIn K c_BadSide = true)
    (e_ic_BadSide : PySem.W.isClsIn K c_BadSide = true)
    (e_s_BadSide : PySem.W.mroIn K c_BadSide (.ref c_BadSide) = some true)
    (a_is_integral : PySem.W.nsIn K mainGlobals "is_integral" = some (some (.ref f_is_integral)))
    (l_is_integral : K.lookup f_is_integral = some ⟨oc_is_integral, od_is_integral, .func (PySem.W.fnOf "is_integral" "is_integral" (defArgs s_is_integral) (defBody s_is_integral) (defScope s_is_integral) .none kV_is_integral dc_is_integral pm_is_integral an_is_integral cd_is_integral ct_is_integral), sl_is_integral⟩)
    (d_is_integral : PySem.W.codeIn K cd_is_integral "is_integral" = true)
    (k_is_integral : PySem.W.keepIn K (.ref f_is_integral) = true)
    (a_BadPoint_init : PySem.W.findIn K (.ref c_BadPoint) "__init__" = some (some (.ref f_BadPoint_init)))
    (t_BadPoint_init : PySem.W.typeIn K (.ref f_BadPoint_init) = some (.type "function"))
    (l_BadPoint_init : K.lookup f_BadPoint_init = some ⟨oc_BadPoint_init, od_BadPoint_init, .func (PySem.W.fnOf "__init__" "BadPoint.__init__" (defArgs s_BadPoint_init) (defBody s_BadPoint_init) (defScope s_BadPoint_init) .none kV_BadPoint_init dc_BadPoint_init pm_BadPoint_init an_BadPoint_init cd_BadPoint_init ct_BadPoint_init), sl_BadPoint_init⟩)
    (d_BadPoint_init : PySem.W.codeIn K cd_BadPoint_init "BadPoint.__init__" = true)
    (k_BadPoint_init : PySem.W.keepIn K (.ref f_BadPoint_init) = true)
    (a_BadCorner_init : PySem.W.findIn K (.ref c_BadCorner) "__init__" = some (some (.ref f_BadCorner_init)))
    (t_BadCorner_init : PySem.W.typeIn K (.ref f_BadCorner_init) = some (.type "function"))
    (l_BadCorner_init : K.lookup f_BadCorner_init = some ⟨oc_BadCorner_init, od_BadCorner_init, .func (PySem.W.fnOf "__init__" "BadCorner.__init__" (defArgs s_BadCorner_init) (defBody s_BadCorner_init) (defScope s_BadCorner_init) .none kV_BadCorner_init dc_BadCorner_init pm_BadCorner_init an_BadCorner_init cd_BadCorner_init ct_BadCorner_init), sl_BadCorner_init⟩)
    (d_BadCorner_init : PySem.W.codeIn K cd_BadCorner_init "BadCorner.__init__" = true)
    (k_BadCorner_init : PySem.W.keepIn K (.ref f_BadCorner_init) = true)
    (a_Barred_init : PySem.W.findIn K (.ref c_Barred) "__init__" = some (some (.ref f_Barred_init)))
    (t_Barred_init : PySem.W.typeIn K (.ref f_Barred_init) = some (.type "function"))
    (l_Barred_init : K.lookup f_Barred_init = some ⟨oc_Barred_init, od_Barred_init, .func (PySem.W.fnOf "__init__" "Barred.__init__" (defArgs s_Barred_init) (defBody s_Barred_init) (defScope s_Barred_init) .none kV_Barred_init dc_Barred_init pm_Barred_init an_Barred_init cd_Barred_init ct_Barred_init), sl_Barred_init⟩)
    (d_Barred_init : PySem.W.codeIn K cd_Barred_init "Barred.__init__" = true)
    (k_Barred_init : PySem.W.keepIn K (.ref f_Barred_init) = true)
    (a_NoCorner_init : PySem.W.findIn K (.ref c_NoCorner) "__init__" = some (some (.ref f_NoCorner_init)))
    (t_NoCorner_init : PySem.W.typeIn K (.ref f_NoCorner_init) = some (.type "function"))
    (l_NoCorner_init : K.lookup f_NoCorner_init = some ⟨oc_NoCorner_init, od_NoCorner_init, .func (PySem.W.fnOf "__init__" "NoCorner.__init__" (defArgs s_NoCorner_init) (defBody s_NoCorner_init) (defScope s_NoCorner_init) .none kV_NoCorner_init dc_NoCorner_init pm_NoCorner_init an_NoCorner_init cd_NoCorner_init ct_NoCorner_init), sl_NoCorner_init⟩)
    (d_NoCorner_init : PySem.W.codeIn K cd_NoCorner_init "NoCorner.__init__" = true)
    (k_NoCorner_init : PySem.W.keepIn K (.ref f_NoCorner_init) = true)
    (a_BadTile_init : PySem.W.findIn K (.ref c_BadTile) "__init__" = some (some (.ref f_BadTile_init)))
    (t_BadTile_init : PySem.W.typeIn K (.ref f_BadTile_init) = some (.type "function"))
    (l_BadTile_init : K.lookup f_BadTile_init = some ⟨oc_BadTile_init, od_BadTile_init, .func (PySem.W.fnOf "__init__" "BadTile.__init__" (defArgs s_BadTile_init) (defBody s_BadTile_init) (defScope s_BadTile_init) .none kV_BadTile_init dc_BadTile_init pm_BadTile_init an_BadTile_init cd_BadTile_init ct_BadTile_init), sl_BadTile_init⟩)
    (d_BadTile_init : PySem.W.codeIn K cd_BadTile_init "BadTile.__init__" = true)
    (k_BadTile_init : PySem.W.keepIn K (.ref f_BadTile_init) = true)
    (a_NoTile_init : PySem.W.findIn K (.ref c_NoTile) "__init__" = some (some (.ref f_NoTile_init)))
    (t_NoTile_init : PySem.W.typeIn K (.ref f_NoTile_init) = some (.type "function"))
    (l_NoTile_init : K.lookup f_NoTile_init = some ⟨oc_NoTile_init, od_NoTile_init, .func (PySem.W.fnOf "__init__" "NoTile.__init__" (defArgs s_NoTile_init) (defBody s_NoTile_init) (defScope s_NoTile_init) .none kV_NoTile_init dc_NoTile_init pm_NoTile_init an_NoTile_init cd_NoTile_init ct_NoTile_init), sl_NoTile_init⟩)
    (d_NoTile_init : PySem.W.codeIn K cd_NoTile_init "NoTile.__init__" = true)
    (k_NoTile_init : PySem.W.keepIn K (.ref f_NoTile_init) = true)
    (a_BadSide_init : PySem.W.findIn K (.ref c_BadSide) "__init__" = some (some (.ref f_BadSide_init)))
    (t_BadSide_init : PySem.W.typeIn K (.ref f_BadSide_init) = some (.type "function"))
    (l_BadSide_init : K.lookup f_BadSide_init = some ⟨oc_BadSide_init, od_BadSide_init, .func (PySem.W.fnOf "__init__" "BadSide.__init__" (defArgs s_BadSide_init) (defBody s_BadSide_init) (defScope s_BadSide_init) .none kV_BadSide_init dc_BadSide_init pm_BadSide_init an_BadSide_init cd_BadSide_init ct_BadSide_init), sl_BadSide_init⟩)
    (d_BadSide_init : PySem.W.codeIn K cd_BadSide_init "BadSide.__init__" = true)
    (k_BadSide_init : PySem.W.keepIn K (.ref f_BadSide_init) = true)
    (a_BadNumber_init : PySem.W.findIn K (.ref c_BadNumber) "__init__" = some (some (.ref f_BadNumber_init)))
    (t_BadNumber_init : PySem.W.typeIn K (.ref f_BadNumber_init) = some (.type "function"))
    (l_BadNumber_init : K.lookup f_BadNumber_init = some ⟨oc_BadNumber_init, od_BadNumber_init, .func (PySem.W.fnOf "__init__" "BadNumber.__init__" (defArgs s_BadNumber_init) (defBody s_BadNumber_init) (defScope s_BadNumber_init) .none kV_BadNumber_init dc_BadNumber_init pm_BadNumber_init an_BadNumber_init cd_BadNumber_init ct_BadNumber_init), sl_BadNumber_init⟩)
    (d_BadNumber_init : PySem.W.codeIn K cd_BadNumber_init "BadNumber.__init__" = true)
    (k_BadNumber_init : PySem.W.keepIn K (.ref f_BadNumber_init) = true)
    (a_Root_init : PySem.W.findIn K (.ref c_Root) "__init__" = some (some (.ref f_Root_init)))
    (i_Root_init : PySem.W.isFn K (.ref f_Root_init) = true)
    (mk_Root_init : PySem.W.makesIn K c_Root = true)
    (kc_Root_init : PySem.W.keepIn K (.ref c_Root) = true)
    (l_Root_init : K.lookup f_Root_init = some ⟨oc_Root_init, od_Root_init, .func (PySem.W.fnOf "__init__" "Root.__init__" (defArgs s_Root_init) (defBody s_Root_init) (defScope s_Root_init) .none kV_Root_init dc_Root_init pm_Root_init an_Root_init cd_Root_init ct_Root_init), sl_Root_init⟩)
    (d_Root_init : PySem.W.codeIn K cd_Root_init "Root.__init__" = true)
    (k_Root_init : PySem.W.keepIn K (.ref f_Root_init) = true)
    (a_Root_eq : PySem.W.findIn K (.ref c_Root) "__eq__" = some (some (.ref f_Root_eq)))
    (i_Root_eq : PySem.W.isFn K (.ref f_Root_eq) = true)
    (l_Root_eq : K.lookup f_Root_eq = some ⟨oc_Root_eq, od_Root_eq, .func (PySem.W.fnOf "__eq__" "Root.__eq__" (defArgs s_Root_eq) (defBody s_Root_eq) (defScope s_Root_eq) .none kV_Root_eq dc_Root_eq pm_Root_eq an_Root_eq cd_Root_eq ct_Root_eq), sl_Root_eq⟩)
    (d_Root_eq : PySem.W.codeIn K cd_Root_eq "Root.__eq__" = true)
    (k_Root_eq : PySem.W.keepIn K (.ref f_Root_eq) = true)
    (a_Root_neg : PySem.W.findIn K (.ref c_Root) "__neg__" = some (some (.ref f_Root_neg)))
    (i_Root_neg : PySem.W.isFn K (.ref f_Root_neg) = true)
    (l_Root_neg : K.lookup f_Root_neg = some ⟨oc_Root_neg, od_Root_neg, .func (PySem.W.fnOf "__neg__" "Root.__neg__" (defArgs s_Root_neg) (defBody s_Root_neg) (defScope s_Root_neg) .none kV_Root_neg dc_Root_neg pm_Root_neg an_Root_neg cd_Root_neg ct_Root_neg), sl_Root_neg⟩)
    (d_Root_neg : PySem.W.codeIn K cd_Root_neg "Root.__neg__" = true)
    (k_Root_neg : PySem.W.keepIn K (.ref f_Root_neg) = true)
    (a_is_number : PySem.W.nsIn K mainGlobals "is_number" = some (some (.ref f_is_number)))
    (l_is_number : K.lookup f_is_number = some ⟨oc_is_number, od_is_number, .func (PySem.W.fnOf "is_number" "is_number" (defArgs s_is_number) (defBody s_is_number) (defScope s_is_number) .none kV_is_number dc_is_number pm_is_number an_is_number cd_is_number ct_is_number), sl_is_number⟩)
    (d_is_number : PySem.W.codeIn K cd_is_number "is_number" = true)
    (k_is_number : PySem.W.keepIn K (.ref f_is_number) = true)
    (a_as_root : PySem.W.nsIn K mainGlobals "as_root" = some (some (.ref f_as_root)))
    (l_as_root : K.lookup f_as_root = some ⟨oc_as_root, od_as_root, .func (PySem.W.fnOf "as_root" "as_root" (defArgs s_as_root) (defBody s_as_root) (defScope s_as_root) .none kV_as_root dc_as_root pm_as_root an_as_root cd_as_root ct_as_root), sl_as_root⟩)
    (d_as_root : PySem.W.codeIn K cd_as_root "as_root" = true)
    (k_as_root : PySem.W.keepIn K (.ref f_as_root) = true)
    (a_surd_sign : PySem.W.nsIn K mainGlobals "surd_sign" = some (some (.ref f_surd_sign)))
    (l_surd_sign : K.lookup f_surd_sign = some ⟨oc_surd_sign, od_surd_sign, .func (PySem.W.fnOf "surd_sign" "surd_sign" (defArgs s_surd_sign) (defBody s_surd_sign) (defScope s_surd_sign) .none kV_surd_sign dc_surd_sign pm_surd_sign an_surd_sign cd_surd_sign ct_surd_sign), sl_surd_sign⟩)
    (d_surd_sign : PySem.W.codeIn K cd_surd_sign "surd_sign" = true)
    (k_surd_sign : PySem.W.keepIn K (.ref f_surd_sign) = true)
    (a_Root_add : PySem.W.findIn K (.ref c_Root) "__add__" = some (some (.ref f_Root_add)))
    (i_Root_add : PySem.W.isFn K (.ref f_Root_add) = true)
    (l_Root_add : K.lookup f_Root_add = some ⟨oc_Root_add, od_Root_add, .func (PySem.W.fnOf "__add__" "Root.__add__" (defArgs s_Root_add) (defBody s_Root_add) (defScope s_Root_add) .none kV_Root_add dc_Root_add pm_Root_add an_Root_add cd_Root_add ct_Root_add), sl_Root_add⟩)
    (d_Root_add : PySem.W.codeIn K cd_Root_add "Root.__add__" = true)
    (k_Root_add : PySem.W.keepIn K (.ref f_Root_add) = true)
    (a_Root_sub : PySem.W.findIn K (.ref c_Root) "__sub__" = some (some (.ref f_Root_sub)))
    (i_Root_sub : PySem.W.isFn K (.ref f_Root_sub) = true)
    (l_Root_sub : K.lookup f_Root_sub = some ⟨oc_Root_sub, od_Root_sub, .func (PySem.W.fnOf "__sub__" "Root.__sub__" (defArgs s_Root_sub) (defBody s_Root_sub) (defScope s_Root_sub) .none kV_Root_sub dc_Root_sub pm_Root_sub an_Root_sub cd_Root_sub ct_Root_sub), sl_Root_sub⟩)
    (d_Root_sub : PySem.W.codeIn K cd_Root_sub "Root.__sub__" = true)
    (k_Root_sub : PySem.W.keepIn K (.ref f_Root_sub) = true)
    (a_Root_mul : PySem.W.findIn K (.ref c_Root) "__mul__" = some (some (.ref f_Root_mul)))
    (i_Root_mul : PySem.W.isFn K (.ref f_Root_mul) = true)
    (l_Root_mul : K.lookup f_Root_mul = some ⟨oc_Root_mul, od_Root_mul, .func (PySem.W.fnOf "__mul__" "Root.__mul__" (defArgs s_Root_mul) (defBody s_Root_mul) (defScope s_Root_mul) .none kV_Root_mul dc_Root_mul pm_Root_mul an_Root_mul cd_Root_mul ct_Root_mul), sl_Root_mul⟩)
    (d_Root_mul : PySem.W.codeIn K cd_Root_mul "Root.__mul__" = true)
    (k_Root_mul : PySem.W.keepIn K (.ref f_Root_mul) = true)
    (a_Root_radd : PySem.W.findIn K (.ref c_Root) "__radd__" = some (some (.ref f_Root_radd)))
    (i_Root_radd : PySem.W.isFn K (.ref f_Root_radd) = true)
    (l_Root_radd : K.lookup f_Root_radd = some ⟨oc_Root_radd, od_Root_radd, .func (PySem.W.fnOf "__radd__" "Root.__radd__" (defArgs s_Root_radd) (defBody s_Root_radd) (defScope s_Root_radd) .none kV_Root_radd dc_Root_radd pm_Root_radd an_Root_radd cd_Root_radd ct_Root_radd), sl_Root_radd⟩)
    (d_Root_radd : PySem.W.codeIn K cd_Root_radd "Root.__radd__" = true)
    (k_Root_radd : PySem.W.keepIn K (.ref f_Root_radd) = true)
    (a_Root_rmul : PySem.W.findIn K (.ref c_Root) "__rmul__" = some (some (.ref f_Root_rmul)))
    (i_Root_rmul : PySem.W.isFn K (.ref f_Root_rmul) = true)
    (l_Root_rmul : K.lookup f_Root_rmul = some ⟨oc_Root_rmul, od_Root_rmul, .func (PySem.W.fnOf "__rmul__" "Root.__rmul__" (defArgs s_Root_rmul) (defBody s_Root_rmul) (defScope s_Root_rmul) .none kV_Root_rmul dc_Root_rmul pm_Root_rmul an_Root_rmul cd_Root_rmul ct_Root_rmul), sl_Root_rmul⟩)
    (d_Root_rmul : PySem.W.codeIn K cd_Root_rmul "Root.__rmul__" = true)
    (k_Root_rmul : PySem.W.keepIn K (.ref f_Root_rmul) = true)
    (a_Root_rsub : PySem.W.findIn K (.ref c_Root) "__rsub__" = some (some (.ref f_Root_rsub)))
    (i_Root_rsub : PySem.W.isFn K (.ref f_Root_rsub) = true)
    (l_Root_rsub : K.lookup f_Root_rsub = some ⟨oc_Root_rsub, od_Root_rsub, .func (PySem.W.fnOf "__rsub__" "Root.__rsub__" (defArgs s_Root_rsub) (defBody s_Root_rsub) (defScope s_Root_rsub) .none kV_Root_rsub dc_Root_rsub pm_Root_rsub an_Root_rsub cd_Root_rsub ct_Root_rsub), sl_Root_rsub⟩)
    (d_Root_rsub : PySem.W.codeIn K cd_Root_rsub "Root.__rsub__" = true)
    (k_Root_rsub : PySem.W.keepIn K (.ref f_Root_rsub) = true)
    (a_Root_less : PySem.W.findIn K (.ref c_Root) "less" = some (some (.ref f_Root_less)))
    (i_Root_less : PySem.W.isFn K (.ref f_Root_less) = true)
    (l_Root_less : K.lookup f_Root_less = some ⟨oc_Root_less, od_Root_less, .func (PySem.W.fnOf "less" "Root.less" (defArgs s_Root_less) (defBody s_Root_less) (defScope s_Root_less) .none kV_Root_less dc_Root_less pm_Root_less an_Root_less cd_Root_less ct_Root_less), sl_Root_less⟩)
    (d_Root_less : PySem.W.codeIn K cd_Root_less "Root.less" = true)
    (k_Root_less : PySem.W.keepIn K (.ref f_Root_less) = true)
    (a__law_start : PySem.W.nsIn K mainGlobals "_law_start" = some (some (.ref f__law_start)))
    (l__law_start : K.lookup f__law_start = some ⟨oc__law_start, od__law_start, .func (PySem.W.fnOf "_law_start" "_law_start" (defArgs s__law_start) (defBody s__law_start) (defScope s__law_start) .none kV__law_start dc__law_start pm__law_start an__law_start cd__law_start ct__law_start), sl__law_start⟩)
    (d__law_start : PySem.W.codeIn K cd__law_start "_law_start" = true)
    (k__law_start : PySem.W.keepIn K (.ref f__law_start) = true)
    (a__law_mixed : PySem.W.nsIn K mainGlobals "_law_mixed" = some (some (.ref f__law_mixed)))
    (l__law_mixed : K.lookup f__law_mixed = some ⟨oc__law_mixed, od__law_mixed, .func (PySem.W.fnOf "_law_mixed" "_law_mixed" (defArgs s__law_mixed) (defBody s__law_mixed) (defScope s__law_mixed) .none kV__law_mixed dc__law_mixed pm__law_mixed an__law_mixed cd__law_mixed ct__law_mixed), sl__law_mixed⟩)
    (d__law_mixed : PySem.W.codeIn K cd__law_mixed "_law_mixed" = true)
    (k__law_mixed : PySem.W.keepIn K (.ref f__law_mixed) = true)
    (a__law_draw : PySem.W.nsIn K mainGlobals "_law_draw" = some (some (.ref f__law_draw)))
    (l__law_draw : K.lookup f__law_draw = some ⟨oc__law_draw, od__law_draw, .func (PySem.W.fnOf "_law_draw" "_law_draw" (defArgs s__law_draw) (defBody s__law_draw) (defScope s__law_draw) .none kV__law_draw dc__law_draw pm__law_draw an__law_draw cd__law_draw ct__law_draw), sl__law_draw⟩)
    (d__law_draw : PySem.W.codeIn K cd__law_draw "_law_draw" = true)
    (k__law_draw : PySem.W.keepIn K (.ref f__law_draw) = true)
    (a__law_between : PySem.W.nsIn K mainGlobals "_law_between" = some (some (.ref f__law_between)))
    (l__law_between : K.lookup f__law_between = some ⟨oc__law_between, od__law_between, .func (PySem.W.fnOf "_law_between" "_law_between" (defArgs s__law_between) (defBody s__law_between) (defScope s__law_between) .none kV__law_between dc__law_between pm__law_between an__law_between cd__law_between ct__law_between), sl__law_between⟩)
    (d__law_between : PySem.W.codeIn K cd__law_between "_law_between" = true)
    (k__law_between : PySem.W.keepIn K (.ref f__law_between) = true)
    (a__law_plus : PySem.W.nsIn K mainGlobals "_law_plus" = some (some (.ref f__law_plus)))
    (l__law_plus : K.lookup f__law_plus = some ⟨oc__law_plus, od__law_plus, .func (PySem.W.fnOf "_law_plus" "_law_plus" (defArgs s__law_plus) (defBody s__law_plus) (defScope s__law_plus) .none kV__law_plus dc__law_plus pm__law_plus an__law_plus cd__law_plus ct__law_plus), sl__law_plus⟩)
    (d__law_plus : PySem.W.codeIn K cd__law_plus "_law_plus" = true)
    (k__law_plus : PySem.W.keepIn K (.ref f__law_plus) = true)
    (a__law_minus : PySem.W.nsIn K mainGlobals "_law_minus" = some (some (.ref f__law_minus)))
    (l__law_minus : K.lookup f__law_minus = some ⟨oc__law_minus, od__law_minus, .func (PySem.W.fnOf "_law_minus" "_law_minus" (defArgs s__law_minus) (defBody s__law_minus) (defScope s__law_minus) .none kV__law_minus dc__law_minus pm__law_minus an__law_minus cd__law_minus ct__law_minus), sl__law_minus⟩)
    (d__law_minus : PySem.W.codeIn K cd__law_minus "_law_minus" = true)
    (k__law_minus : PySem.W.keepIn K (.ref f__law_minus) = true)
    (a__law_sign : PySem.W.nsIn K mainGlobals "_law_sign" = some (some (.ref f__law_sign)))
    (l__law_sign : K.lookup f__law_sign = some ⟨oc__law_sign, od__law_sign, .func (PySem.W.fnOf "_law_sign" "_law_sign" (defArgs s__law_sign) (defBody s__law_sign) (defScope s__law_sign) .none kV__law_sign dc__law_sign pm__law_sign an__law_sign cd__law_sign ct__law_sign), sl__law_sign⟩)
    (d__law_sign : PySem.W.codeIn K cd__law_sign "_law_sign" = true)
    (k__law_sign : PySem.W.keepIn K (.ref f__law_sign) = true)
    (a_is_corner : PySem.W.nsIn K mainGlobals "is_corner" = some (some (.ref f_is_corner)))
    (l_is_corner : K.lookup f_is_corner = some ⟨oc_is_corner, od_is_corner, .func (PySem.W.fnOf "is_corner" "is_corner" (defArgs s_is_corner) (defBody s_is_corner) (defScope s_is_corner) .none kV_is_corner dc_is_corner pm_is_corner an_is_corner cd_is_corner ct_is_corner), sl_is_corner⟩)
    (d_is_corner : PySem.W.codeIn K cd_is_corner "is_corner" = true)
    (k_is_corner : PySem.W.keepIn K (.ref f_is_corner) = true)
    (a_check_corner : PySem.W.nsIn K mainGlobals "check_corner" = some (some (.ref f_check_corner)))
    (l_check_corner : K.lookup f_check_corner = some ⟨oc_check_corner, od_check_corner, .func (PySem.W.fnOf "check_corner" "check_corner" (defArgs s_check_corner) (defBody s_check_corner) (defScope s_check_corner) .none kV_check_corner dc_check_corner pm_check_corner an_check_corner cd_check_corner ct_check_corner), sl_check_corner⟩)
    (d_check_corner : PySem.W.codeIn K cd_check_corner "check_corner" = true)
    (k_check_corner : PySem.W.keepIn K (.ref f_check_corner) = true)
    (a_step : PySem.W.nsIn K mainGlobals "step" = some (some (.ref f_step)))
    (l_step : K.lookup f_step = some ⟨oc_step, od_step, .func (PySem.W.fnOf "step" "step" (defArgs s_step) (defBody s_step) (defScope s_step) .none kV_step dc_step pm_step an_step cd_step ct_step), sl_step⟩)
    (d_step : PySem.W.codeIn K cd_step "step" = true)
    (k_step : PySem.W.keepIn K (.ref f_step) = true)
    (a__law_star : PySem.W.nsIn K mainGlobals "_law_star" = some (some (.ref f__law_star)))
    (l__law_star : K.lookup f__law_star = some ⟨oc__law_star, od__law_star, .func (PySem.W.fnOf "_law_star" "_law_star" (defArgs s__law_star) (defBody s__law_star) (defScope s__law_star) .none kV__law_star dc__law_star pm__law_star an__law_star cd__law_star ct__law_star), sl__law_star⟩)
    (d__law_star : PySem.W.codeIn K cd__law_star "_law_star" = true)
    (k__law_star : PySem.W.keepIn K (.ref f__law_star) = true)
    (a__law_corner : PySem.W.nsIn K mainGlobals "_law_corner" = some (some (.ref f__law_corner)))
    (l__law_corner : K.lookup f__law_corner = some ⟨oc__law_corner, od__law_corner, .func (PySem.W.fnOf "_law_corner" "_law_corner" (defArgs s__law_corner) (defBody s__law_corner) (defScope s__law_corner) .none kV__law_corner dc__law_corner pm__law_corner an__law_corner cd__law_corner ct__law_corner), sl__law_corner⟩)
    (d__law_corner : PySem.W.codeIn K cd__law_corner "_law_corner" = true)
    (k__law_corner : PySem.W.keepIn K (.ref f__law_corner) = true)
    (a__law_is_corner : PySem.W.nsIn K mainGlobals "_law_is_corner" = some (some (.ref f__law_is_corner)))
    (l__law_is_corner : K.lookup f__law_is_corner = some ⟨oc__law_is_corner, od__law_is_corner, .func (PySem.W.fnOf "_law_is_corner" "_law_is_corner" (defArgs s__law_is_corner) (defBody s__law_is_corner) (defScope s__law_is_corner) .none kV__law_is_corner dc__law_is_corner pm__law_is_corner an__law_is_corner cd__law_is_corner ct__law_is_corner), sl__law_is_corner⟩)
    (d__law_is_corner : PySem.W.codeIn K cd__law_is_corner "_law_is_corner" = true)
    (k__law_is_corner : PySem.W.keepIn K (.ref f__law_is_corner) = true)
    (a_is_point : PySem.W.nsIn K mainGlobals "is_point" = some (some (.ref f_is_point)))
    (l_is_point : K.lookup f_is_point = some ⟨oc_is_point, od_is_point, .func (PySem.W.fnOf "is_point" "is_point" (defArgs s_is_point) (defBody s_is_point) (defScope s_is_point) .none kV_is_point dc_is_point pm_is_point an_is_point cd_is_point ct_is_point), sl_is_point⟩)
    (d_is_point : PySem.W.codeIn K cd_is_point "is_point" = true)
    (k_is_point : PySem.W.keepIn K (.ref f_is_point) = true)
    (a_as_roots : PySem.W.nsIn K mainGlobals "as_roots" = some (some (.ref f_as_roots)))
    (l_as_roots : K.lookup f_as_roots = some ⟨oc_as_roots, od_as_roots, .func (PySem.W.fnOf "as_roots" "as_roots" (defArgs s_as_roots) (defBody s_as_roots) (defScope s_as_roots) .none kV_as_roots dc_as_roots pm_as_roots an_as_roots cd_as_roots ct_as_roots), sl_as_roots⟩)
    (d_as_roots : PySem.W.codeIn K cd_as_roots "as_roots" = true)
    (k_as_roots : PySem.W.keepIn K (.ref f_as_roots) = true)
    (a__law_given : PySem.W.nsIn K mainGlobals "_law_given" = some (some (.ref f__law_given)))
    (l__law_given : K.lookup f__law_given = some ⟨oc__law_given, od__law_given, .func (PySem.W.fnOf "_law_given" "_law_given" (defArgs s__law_given) (defBody s__law_given) (defScope s__law_given) .none kV__law_given dc__law_given pm__law_given an__law_given cd__law_given ct__law_given), sl__law_given⟩)
    (d__law_given : PySem.W.codeIn K cd__law_given "_law_given" = true)
    (k__law_given : PySem.W.keepIn K (.ref f__law_given) = true)
    (a_check_point : PySem.W.nsIn K mainGlobals "check_point" = some (some (.ref f_check_point)))
    (l_check_point : K.lookup f_check_point = some ⟨oc_check_point, od_check_point, .func (PySem.W.fnOf "check_point" "check_point" (defArgs s_check_point) (defBody s_check_point) (defScope s_check_point) .none kV_check_point dc_check_point pm_check_point an_check_point cd_check_point ct_check_point), sl_check_point⟩)
    (d_check_point : PySem.W.codeIn K cd_check_point "check_point" = true)
    (k_check_point : PySem.W.keepIn K (.ref f_check_point) = true)
    (a_is_half : PySem.W.nsIn K mainGlobals "is_half" = some (some (.ref f_is_half)))
    (l_is_half : K.lookup f_is_half = some ⟨oc_is_half, od_is_half, .func (PySem.W.fnOf "is_half" "is_half" (defArgs s_is_half) (defBody s_is_half) (defScope s_is_half) .none kV_is_half dc_is_half pm_is_half an_is_half cd_is_half ct_is_half), sl_is_half⟩)
    (d_is_half : PySem.W.codeIn K cd_is_half "is_half" = true)
    (k_is_half : PySem.W.keepIn K (.ref f_is_half) = true)
    (a_bars_evenly : PySem.W.nsIn K mainGlobals "bars_evenly" = some (some (.ref f_bars_evenly)))
    (l_bars_evenly : K.lookup f_bars_evenly = some ⟨oc_bars_evenly, od_bars_evenly, .func (PySem.W.fnOf "bars_evenly" "bars_evenly" (defArgs s_bars_evenly) (defBody s_bars_evenly) (defScope s_bars_evenly) .none kV_bars_evenly dc_bars_evenly pm_bars_evenly an_bars_evenly cd_bars_evenly ct_bars_evenly), sl_bars_evenly⟩)
    (d_bars_evenly : PySem.W.codeIn K cd_bars_evenly "bars_evenly" = true)
    (k_bars_evenly : PySem.W.keepIn K (.ref f_bars_evenly) = true)
    (a_bars_oddly : PySem.W.nsIn K mainGlobals "bars_oddly" = some (some (.ref f_bars_oddly)))
    (l_bars_oddly : K.lookup f_bars_oddly = some ⟨oc_bars_oddly, od_bars_oddly, .func (PySem.W.fnOf "bars_oddly" "bars_oddly" (defArgs s_bars_oddly) (defBody s_bars_oddly) (defScope s_bars_oddly) .none kV_bars_oddly dc_bars_oddly pm_bars_oddly an_bars_oddly cd_bars_oddly ct_bars_oddly), sl_bars_oddly⟩)
    (d_bars_oddly : PySem.W.codeIn K cd_bars_oddly "bars_oddly" = true)
    (k_bars_oddly : PySem.W.keepIn K (.ref f_bars_oddly) = true)
    (a_barred : PySem.W.nsIn K mainGlobals "barred" = some (some (.ref f_barred)))
    (l_barred : K.lookup f_barred = some ⟨oc_barred, od_barred, .func (PySem.W.fnOf "barred" "barred" (defArgs s_barred) (defBody s_barred) (defScope s_barred) .none kV_barred dc_barred pm_barred an_barred cd_barred ct_barred), sl_barred⟩)
    (d_barred : PySem.W.codeIn K cd_barred "barred" = true)
    (k_barred : PySem.W.keepIn K (.ref f_barred) = true)
    (a_gauge_of : PySem.W.nsIn K mainGlobals "gauge_of" = some (some (.ref f_gauge_of)))
    (l_gauge_of : K.lookup f_gauge_of = some ⟨oc_gauge_of, od_gauge_of, .func (PySem.W.fnOf "gauge_of" "gauge_of" (defArgs s_gauge_of) (defBody s_gauge_of) (defScope s_gauge_of) .none kV_gauge_of dc_gauge_of pm_gauge_of an_gauge_of cd_gauge_of ct_gauge_of), sl_gauge_of⟩)
    (d_gauge_of : PySem.W.codeIn K cd_gauge_of "gauge_of" = true)
    (k_gauge_of : PySem.W.keepIn K (.ref f_gauge_of) = true)
    (a_beside : PySem.W.nsIn K mainGlobals "beside" = some (some (.ref f_beside)))
    (l_beside : K.lookup f_beside = some ⟨oc_beside, od_beside, .func (PySem.W.fnOf "beside" "beside" (defArgs s_beside) (defBody s_beside) (defScope s_beside) .none kV_beside dc_beside pm_beside an_beside cd_beside ct_beside), sl_beside⟩)
    (d_beside : PySem.W.codeIn K cd_beside "beside" = true)
    (k_beside : PySem.W.keepIn K (.ref f_beside) = true)
    (a_in_window : PySem.W.nsIn K mainGlobals "in_window" = some (some (.ref f_in_window)))
    (l_in_window : K.lookup f_in_window = some ⟨oc_in_window, od_in_window, .func (PySem.W.fnOf "in_window" "in_window" (defArgs s_in_window) (defBody s_in_window) (defScope s_in_window) .none kV_in_window dc_in_window pm_in_window an_in_window cd_in_window ct_in_window), sl_in_window⟩)
    (d_in_window : PySem.W.codeIn K cd_in_window "in_window" = true)
    (k_in_window : PySem.W.keepIn K (.ref f_in_window) = true)
    (a_Floor_init : PySem.W.findIn K (.ref c_Floor) "__init__" = some (some (.ref f_Floor_init)))
    (i_Floor_init : PySem.W.isFn K (.ref f_Floor_init) = true)
    (mk_Floor_init : PySem.W.makesIn K c_Floor = true)
    (kc_Floor_init : PySem.W.keepIn K (.ref c_Floor) = true)
    (l_Floor_init : K.lookup f_Floor_init = some ⟨oc_Floor_init, od_Floor_init, .func (PySem.W.fnOf "__init__" "Floor.__init__" (defArgs s_Floor_init) (defBody s_Floor_init) (defScope s_Floor_init) .none kV_Floor_init dc_Floor_init pm_Floor_init an_Floor_init cd_Floor_init ct_Floor_init), sl_Floor_init⟩)
    (d_Floor_init : PySem.W.codeIn K cd_Floor_init "Floor.__init__" = true)
    (k_Floor_init : PySem.W.keepIn K (.ref f_Floor_init) = true)
    (a_Floor_has_corner : PySem.W.findIn K (.ref c_Floor) "has_corner" = some (some (.ref f_Floor_has_corner)))
    (i_Floor_has_corner : PySem.W.isFn K (.ref f_Floor_has_corner) = true)
    (l_Floor_has_corner : K.lookup f_Floor_has_corner = some ⟨oc_Floor_has_corner, od_Floor_has_corner, .func (PySem.W.fnOf "has_corner" "Floor.has_corner" (defArgs s_Floor_has_corner) (defBody s_Floor_has_corner) (defScope s_Floor_has_corner) .none kV_Floor_has_corner dc_Floor_has_corner pm_Floor_has_corner an_Floor_has_corner cd_Floor_has_corner ct_Floor_has_corner), sl_Floor_has_corner⟩)
    (d_Floor_has_corner : PySem.W.codeIn K cd_Floor_has_corner "Floor.has_corner" = true)
    (k_Floor_has_corner : PySem.W.keepIn K (.ref f_Floor_has_corner) = true)
    (a__law_lines : PySem.W.nsIn K mainGlobals "_law_lines" = some (some (.ref f__law_lines)))
    (l__law_lines : K.lookup f__law_lines = some ⟨oc__law_lines, od__law_lines, .func (PySem.W.fnOf "_law_lines" "_law_lines" (defArgs s__law_lines) (defBody s__law_lines) (defScope s__law_lines) .none kV__law_lines dc__law_lines pm__law_lines an__law_lines cd__law_lines ct__law_lines), sl__law_lines⟩)
    (d__law_lines : PySem.W.codeIn K cd__law_lines "_law_lines" = true)
    (k__law_lines : PySem.W.keepIn K (.ref f__law_lines) = true)
    (a__law_inside : PySem.W.nsIn K mainGlobals "_law_inside" = some (some (.ref f__law_inside)))
    (l__law_inside : K.lookup f__law_inside = some ⟨oc__law_inside, od__law_inside, .func (PySem.W.fnOf "_law_inside" "_law_inside" (defArgs s__law_inside) (defBody s__law_inside) (defScope s__law_inside) .none kV__law_inside dc__law_inside pm__law_inside an__law_inside cd__law_inside ct__law_inside), sl__law_inside⟩)
    (d__law_inside : PySem.W.codeIn K cd__law_inside "_law_inside" = true)
    (k__law_inside : PySem.W.keepIn K (.ref f__law_inside) = true)
    (a__law_is_odd_half : PySem.W.nsIn K mainGlobals "_law_is_odd_half" = some (some (.ref f__law_is_odd_half)))
    (l__law_is_odd_half : K.lookup f__law_is_odd_half = some ⟨oc__law_is_odd_half, od__law_is_odd_half, .func (PySem.W.fnOf "_law_is_odd_half" "_law_is_odd_half" (defArgs s__law_is_odd_half) (defBody s__law_is_odd_half) (defScope s__law_is_odd_half) .none kV__law_is_odd_half dc__law_is_odd_half pm__law_is_odd_half an__law_is_odd_half cd__law_is_odd_half ct__law_is_odd_half), sl__law_is_odd_half⟩)
    (d__law_is_odd_half : PySem.W.codeIn K cd__law_is_odd_half "_law_is_odd_half" = true)
    (k__law_is_odd_half : PySem.W.keepIn K (.ref f__law_is_odd_half) = true)
    (a__law_barred : PySem.W.nsIn K mainGlobals "_law_barred" = some (some (.ref f__law_barred)))
    (l__law_barred : K.lookup f__law_barred = some ⟨oc__law_barred, od__law_barred, .func (PySem.W.fnOf "_law_barred" "_law_barred" (defArgs s__law_barred) (defBody s__law_barred) (defScope s__law_barred) .none kV__law_barred dc__law_barred pm__law_barred an__law_barred cd__law_barred ct__law_barred), sl__law_barred⟩)
    (d__law_barred : PySem.W.codeIn K cd__law_barred "_law_barred" = true)
    (k__law_barred : PySem.W.keepIn K (.ref f__law_barred) = true)
    (a__law_spot : PySem.W.nsIn K mainGlobals "_law_spot" = some (some (.ref f__law_spot)))
    (l__law_spot : K.lookup f__law_spot = some ⟨oc__law_spot, od__law_spot, .func (PySem.W.fnOf "_law_spot" "_law_spot" (defArgs s__law_spot) (defBody s__law_spot) (defScope s__law_spot) .none kV__law_spot dc__law_spot pm__law_spot an__law_spot cd__law_spot ct__law_spot), sl__law_spot⟩)
    (d__law_spot : PySem.W.codeIn K cd__law_spot "_law_spot" = true)
    (k__law_spot : PySem.W.keepIn K (.ref f__law_spot) = true)
    (a__law_shift : PySem.W.nsIn K mainGlobals "_law_shift" = some (some (.ref f__law_shift)))
    (l__law_shift : K.lookup f__law_shift = some ⟨oc__law_shift, od__law_shift, .func (PySem.W.fnOf "_law_shift" "_law_shift" (defArgs s__law_shift) (defBody s__law_shift) (defScope s__law_shift) .none kV__law_shift dc__law_shift pm__law_shift an__law_shift cd__law_shift ct__law_shift), sl__law_shift⟩)
    (d__law_shift : PySem.W.codeIn K cd__law_shift "_law_shift" = true)
    (k__law_shift : PySem.W.keepIn K (.ref f__law_shift) = true)
    (a__law_has : PySem.W.nsIn K mainGlobals "_law_has" = some (some (.ref f__law_has)))
    (l__law_has : K.lookup f__law_has = some ⟨oc__law_has, od__law_has, .func (PySem.W.fnOf "_law_has" "_law_has" (defArgs s__law_has) (defBody s__law_has) (defScope s__law_has) .none kV__law_has dc__law_has pm__law_has an__law_has cd__law_has ct__law_has), sl__law_has⟩)
    (d__law_has : PySem.W.codeIn K cd__law_has "_law_has" = true)
    (k__law_has : PySem.W.keepIn K (.ref f__law_has) = true)
    (a_Floorways : PySem.W.findIn K (.ref c_Floor) "_ways" = some (some (.ref f_Floorways)))
    (i_Floorways : PySem.W.isFn K (.ref f_Floorways) = true)
    (l_Floorways : K.lookup f_Floorways = some ⟨oc_Floorways, od_Floorways, .func (PySem.W.fnOf "_ways" "Floor._ways" (defArgs s_Floorways) (defBody s_Floorways) (defScope s_Floorways) .none kV_Floorways dc_Floorways pm_Floorways an_Floorways cd_Floorways ct_Floorways), sl_Floorways⟩)
    (d_Floorways : PySem.W.codeIn K cd_Floorways "Floor._ways" = true)
    (k_Floorways : PySem.W.keepIn K (.ref f_Floorways) = true)
    (a_Floor_sides : PySem.W.findIn K (.ref c_Floor) "sides" = some (some (.ref f_Floor_sides)))
    (i_Floor_sides : PySem.W.isFn K (.ref f_Floor_sides) = true)
    (l_Floor_sides : K.lookup f_Floor_sides = some ⟨oc_Floor_sides, od_Floor_sides, .func (PySem.W.fnOf "sides" "Floor.sides" (defArgs s_Floor_sides) (defBody s_Floor_sides) (defScope s_Floor_sides) .none kV_Floor_sides dc_Floor_sides pm_Floor_sides an_Floor_sides cd_Floor_sides ct_Floor_sides), sl_Floor_sides⟩)
    (d_Floor_sides : PySem.W.codeIn K cd_Floor_sides "Floor.sides" = true)
    (k_Floor_sides : PySem.W.keepIn K (.ref f_Floor_sides) = true)
    (a__law_step : PySem.W.nsIn K mainGlobals "_law_step" = some (some (.ref f__law_step)))
    (l__law_step : K.lookup f__law_step = some ⟨oc__law_step, od__law_step, .func (PySem.W.fnOf "_law_step" "_law_step" (defArgs s__law_step) (defBody s__law_step) (defScope s__law_step) .none kV__law_step dc__law_step pm__law_step an__law_step cd__law_step ct__law_step), sl__law_step⟩)
    (d__law_step : PySem.W.codeIn K cd__law_step "_law_step" = true)
    (k__law_step : PySem.W.keepIn K (.ref f__law_step) = true)
    (a__law_sides : PySem.W.nsIn K mainGlobals "_law_sides" = some (some (.ref f__law_sides)))
    (l__law_sides : K.lookup f__law_sides = some ⟨oc__law_sides, od__law_sides, .func (PySem.W.fnOf "_law_sides" "_law_sides" (defArgs s__law_sides) (defBody s__law_sides) (defScope s__law_sides) .none kV__law_sides dc__law_sides pm__law_sides an__law_sides cd__law_sides ct__law_sides), sl__law_sides⟩)
    (d__law_sides : PySem.W.codeIn K cd__law_sides "_law_sides" = true)
    (k__law_sides : PySem.W.keepIn K (.ref f__law_sides) = true)
    (a__law_floor : PySem.W.nsIn K mainGlobals "_law_floor" = some (some (.ref f__law_floor)))
    (l__law_floor : K.lookup f__law_floor = some ⟨oc__law_floor, od__law_floor, .func (PySem.W.fnOf "_law_floor" "_law_floor" (defArgs s__law_floor) (defBody s__law_floor) (defScope s__law_floor) .none kV__law_floor dc__law_floor pm__law_floor an__law_floor cd__law_floor ct__law_floor), sl__law_floor⟩)
    (d__law_floor : PySem.W.codeIn K cd__law_floor "_law_floor" = true)
    (k__law_floor : PySem.W.keepIn K (.ref f__law_floor) = true)
    (a_is_tile : PySem.W.nsIn K mainGlobals "is_tile" = some (some (.ref f_is_tile)))
    (l_is_tile : K.lookup f_is_tile = some ⟨oc_is_tile, od_is_tile, .func (PySem.W.fnOf "is_tile" "is_tile" (defArgs s_is_tile) (defBody s_is_tile) (defScope s_is_tile) .none kV_is_tile dc_is_tile pm_is_tile an_is_tile cd_is_tile ct_is_tile), sl_is_tile⟩)
    (d_is_tile : PySem.W.codeIn K cd_is_tile "is_tile" = true)
    (k_is_tile : PySem.W.keepIn K (.ref f_is_tile) = true)
    (a_check_tile : PySem.W.nsIn K mainGlobals "check_tile" = some (some (.ref f_check_tile)))
    (l_check_tile : K.lookup f_check_tile = some ⟨oc_check_tile, od_check_tile, .func (PySem.W.fnOf "check_tile" "check_tile" (defArgs s_check_tile) (defBody s_check_tile) (defScope s_check_tile) .none kV_check_tile dc_check_tile pm_check_tile an_check_tile cd_check_tile ct_check_tile), sl_check_tile⟩)
    (d_check_tile : PySem.W.codeIn K cd_check_tile "check_tile" = true)
    (k_check_tile : PySem.W.keepIn K (.ref f_check_tile) = true)
    (a_tile_corners : PySem.W.nsIn K mainGlobals "tile_corners" = some (some (.ref f_tile_corners)))
    (l_tile_corners : K.lookup f_tile_corners = some ⟨oc_tile_corners, od_tile_corners, .func (PySem.W.fnOf "tile_corners" "tile_corners" (defArgs s_tile_corners) (defBody s_tile_corners) (defScope s_tile_corners) .none kV_tile_corners dc_tile_corners pm_tile_corners an_tile_corners cd_tile_corners ct_tile_corners), sl_tile_corners⟩)
    (d_tile_corners : PySem.W.codeIn K cd_tile_corners "tile_corners" = true)
    (k_tile_corners : PySem.W.keepIn K (.ref f_tile_corners) = true)
    (a_Floor_has_tile : PySem.W.findIn K (.ref c_Floor) "has_tile" = some (some (.ref f_Floor_has_tile)))
    (i_Floor_has_tile : PySem.W.isFn K (.ref f_Floor_has_tile) = true)
    (l_Floor_has_tile : K.lookup f_Floor_has_tile = some ⟨oc_Floor_has_tile, od_Floor_has_tile, .func (PySem.W.fnOf "has_tile" "Floor.has_tile" (defArgs s_Floor_has_tile) (defBody s_Floor_has_tile) (defScope s_Floor_has_tile) .none kV_Floor_has_tile dc_Floor_has_tile pm_Floor_has_tile an_Floor_has_tile cd_Floor_has_tile ct_Floor_has_tile), sl_Floor_has_tile⟩)
    (d_Floor_has_tile : PySem.W.codeIn K cd_Floor_has_tile "Floor.has_tile" = true)
    (k_Floor_has_tile : PySem.W.keepIn K (.ref f_Floor_has_tile) = true)
    (a__law_ends : PySem.W.nsIn K mainGlobals "_law_ends" = some (some (.ref f__law_ends)))
    (l__law_ends : K.lookup f__law_ends = some ⟨oc__law_ends, od__law_ends, .func (PySem.W.fnOf "_law_ends" "_law_ends" (defArgs s__law_ends) (defBody s__law_ends) (defScope s__law_ends) .none kV__law_ends dc__law_ends pm__law_ends an__law_ends cd__law_ends ct__law_ends), sl__law_ends⟩)
    (d__law_ends : PySem.W.codeIn K cd__law_ends "_law_ends" = true)
    (k__law_ends : PySem.W.keepIn K (.ref f__law_ends) = true)
    (a__law_has_tile : PySem.W.nsIn K mainGlobals "_law_has_tile" = some (some (.ref f__law_has_tile)))
    (l__law_has_tile : K.lookup f__law_has_tile = some ⟨oc__law_has_tile, od__law_has_tile, .func (PySem.W.fnOf "_law_has_tile" "_law_has_tile" (defArgs s__law_has_tile) (defBody s__law_has_tile) (defScope s__law_has_tile) .none kV__law_has_tile dc__law_has_tile pm__law_has_tile an__law_has_tile cd__law_has_tile ct__law_has_tile), sl__law_has_tile⟩)
    (d__law_has_tile : PySem.W.codeIn K cd__law_has_tile "_law_has_tile" = true)
    (k__law_has_tile : PySem.W.keepIn K (.ref f__law_has_tile) = true)
    (a__law_tile_between : PySem.W.nsIn K mainGlobals "_law_tile_between" = some (some (.ref f__law_tile_between)))
    (l__law_tile_between : K.lookup f__law_tile_between = some ⟨oc__law_tile_between, od__law_tile_between, .func (PySem.W.fnOf "_law_tile_between" "_law_tile_between" (defArgs s__law_tile_between) (defBody s__law_tile_between) (defScope s__law_tile_between) .none kV__law_tile_between dc__law_tile_between pm__law_tile_between an__law_tile_between cd__law_tile_between ct__law_tile_between), sl__law_tile_between⟩)
    (d__law_tile_between : PySem.W.codeIn K cd__law_tile_between "_law_tile_between" = true)
    (k__law_tile_between : PySem.W.keepIn K (.ref f__law_tile_between) = true)
    (a__law_tiles_at : PySem.W.nsIn K mainGlobals "_law_tiles_at" = some (some (.ref f__law_tiles_at)))
    (l__law_tiles_at : K.lookup f__law_tiles_at = some ⟨oc__law_tiles_at, od__law_tiles_at, .func (PySem.W.fnOf "_law_tiles_at" "_law_tiles_at" (defArgs s__law_tiles_at) (defBody s__law_tiles_at) (defScope s__law_tiles_at) .none kV__law_tiles_at dc__law_tiles_at pm__law_tiles_at an__law_tiles_at cd__law_tiles_at ct__law_tiles_at), sl__law_tiles_at⟩)
    (d__law_tiles_at : PySem.W.codeIn K cd__law_tiles_at "_law_tiles_at" = true)
    (k__law_tiles_at : PySem.W.keepIn K (.ref f__law_tiles_at) = true)
    (a_tile_between : PySem.W.nsIn K mainGlobals "tile_between" = some (some (.ref f_tile_between)))
    (l_tile_between : K.lookup f_tile_between = some ⟨oc_tile_between, od_tile_between, .func (PySem.W.fnOf "tile_between" "tile_between" (defArgs s_tile_between) (defBody s_tile_between) (defScope s_tile_between) .none kV_tile_between dc_tile_between pm_tile_between an_tile_between cd_tile_between ct_tile_between), sl_tile_between⟩)
    (d_tile_between : PySem.W.codeIn K cd_tile_between "tile_between" = true)
    (k_tile_between : PySem.W.keepIn K (.ref f_tile_between) = true)
    (a_Floor_tiles_at : PySem.W.findIn K (.ref c_Floor) "tiles_at" = some (some (.ref f_Floor_tiles_at)))
    (i_Floor_tiles_at : PySem.W.isFn K (.ref f_Floor_tiles_at) = true)
    (l_Floor_tiles_at : K.lookup f_Floor_tiles_at = some ⟨oc_Floor_tiles_at, od_Floor_tiles_at, .func (PySem.W.fnOf "tiles_at" "Floor.tiles_at" (defArgs s_Floor_tiles_at) (defBody s_Floor_tiles_at) (defScope s_Floor_tiles_at) .none kV_Floor_tiles_at dc_Floor_tiles_at pm_Floor_tiles_at an_Floor_tiles_at cd_Floor_tiles_at ct_Floor_tiles_at), sl_Floor_tiles_at⟩)
    (d_Floor_tiles_at : PySem.W.codeIn K cd_Floor_tiles_at "Floor.tiles_at" = true)
    (k_Floor_tiles_at : PySem.W.keepIn K (.ref f_Floor_tiles_at) = true)
    (a_Floor_across : PySem.W.findIn K (.ref c_Floor) "across" = some (some (.ref f_Floor_across)))
    (i_Floor_across : PySem.W.isFn K (.ref f_Floor_across) = true)
    (l_Floor_across : K.lookup f_Floor_across = some ⟨oc_Floor_across, od_Floor_across, .func (PySem.W.fnOf "across" "Floor.across" (defArgs s_Floor_across) (defBody s_Floor_across) (defScope s_Floor_across) .none kV_Floor_across dc_Floor_across pm_Floor_across an_Floor_across cd_Floor_across ct_Floor_across), sl_Floor_across⟩)
    (d_Floor_across : PySem.W.codeIn K cd_Floor_across "Floor.across" = true)
    (k_Floor_across : PySem.W.keepIn K (.ref f_Floor_across) = true)
    (a__law_is_tile : PySem.W.nsIn K mainGlobals "_law_is_tile" = some (some (.ref f__law_is_tile)))
    (l__law_is_tile : K.lookup f__law_is_tile = some ⟨oc__law_is_tile, od__law_is_tile, .func (PySem.W.fnOf "_law_is_tile" "_law_is_tile" (defArgs s__law_is_tile) (defBody s__law_is_tile) (defScope s__law_is_tile) .none kV__law_is_tile dc__law_is_tile pm__law_is_tile an__law_is_tile cd__law_is_tile ct__law_is_tile), sl__law_is_tile⟩)
    (d__law_is_tile : PySem.W.codeIn K cd__law_is_tile "_law_is_tile" = true)
    (k__law_is_tile : PySem.W.keepIn K (.ref f__law_is_tile) = true)
    (a__law_side_ends : PySem.W.nsIn K mainGlobals "_law_side_ends" = some (some (.ref f__law_side_ends)))
    (l__law_side_ends : K.lookup f__law_side_ends = some ⟨oc__law_side_ends, od__law_side_ends, .func (PySem.W.fnOf "_law_side_ends" "_law_side_ends" (defArgs s__law_side_ends) (defBody s__law_side_ends) (defScope s__law_side_ends) .none kV__law_side_ends dc__law_side_ends pm__law_side_ends an__law_side_ends cd__law_side_ends ct__law_side_ends), sl__law_side_ends⟩)
    (d__law_side_ends : PySem.W.codeIn K cd__law_side_ends "_law_side_ends" = true)
    (k__law_side_ends : PySem.W.keepIn K (.ref f__law_side_ends) = true)
    (a__law_side_with : PySem.W.nsIn K mainGlobals "_law_side_with" = some (some (.ref f__law_side_with)))
    (l__law_side_with : K.lookup f__law_side_with = some ⟨oc__law_side_with, od__law_side_with, .func (PySem.W.fnOf "_law_side_with" "_law_side_with" (defArgs s__law_side_with) (defBody s__law_side_with) (defScope s__law_side_with) .none kV__law_side_with dc__law_side_with pm__law_side_with an__law_side_with cd__law_side_with ct__law_side_with), sl__law_side_with⟩)
    (d__law_side_with : PySem.W.codeIn K cd__law_side_with "_law_side_with" = true)
    (k__law_side_with : PySem.W.keepIn K (.ref f__law_side_with) = true)
    (a__law_common : PySem.W.nsIn K mainGlobals "_law_common" = some (some (.ref f__law_common)))
    (l__law_common : K.lookup f__law_common = some ⟨oc__law_common, od__law_common, .func (PySem.W.fnOf "_law_common" "_law_common" (defArgs s__law_common) (defBody s__law_common) (defScope s__law_common) .none kV__law_common dc__law_common pm__law_common an__law_common cd__law_common ct__law_common), sl__law_common⟩)
    (d__law_common : PySem.W.codeIn K cd__law_common "_law_common" = true)
    (k__law_common : PySem.W.keepIn K (.ref f__law_common) = true)
    (a__law_round : PySem.W.nsIn K mainGlobals "_law_round" = some (some (.ref f__law_round)))
    (l__law_round : K.lookup f__law_round = some ⟨oc__law_round, od__law_round, .func (PySem.W.fnOf "_law_round" "_law_round" (defArgs s__law_round) (defBody s__law_round) (defScope s__law_round) .none kV__law_round dc__law_round pm__law_round an__law_round cd__law_round ct__law_round), sl__law_round⟩)
    (d__law_round : PySem.W.codeIn K cd__law_round "_law_round" = true)
    (k__law_round : PySem.W.keepIn K (.ref f__law_round) = true)
    (a_law : PySem.W.nsIn K mainGlobals "law" = some (some (.ref f_law)))
    (l_law : K.lookup f_law = some ⟨oc_law, od_law, .func (PySem.W.fnOf "law" "law" (defArgs s_law) (defBody s_law) (defScope s_law) .none kV_law dc_law pm_law an_law cd_law ct_law), sl_law⟩)
    (d_law : PySem.W.codeIn K cd_law "law" = true)
    (k_law : PySem.W.keepIn K (.ref f_law) = true)
    : ∃ fd : FuncData, (∀ (s : Shared) (v : Value), BindsTo s fd ⟨[v], []⟩ [("script", v)]) ∧ ∀ base : Heap, K.In base → base.Ns mainGlobals mg → FnOk P w K mg base (L2.CX P w) 12 fa fd ["script"] (spTop K) := by
  have e := hfa.symm.trans (PySem.W.mg_of X G a_law)
  cases e
  have M : ∀ {n : Str} {v : Value}, PySem.W.nsIn K mainGlobals n = some (some v) → mg n = some v := fun h => PySem.W.mg_of X G h
  have O : ∀ {n : Str}, PySem.W.nsIn K mainGlobals n = some none → mg n = none := fun h => PySem.W.mg_none_of X G h
  have T : Txt (⟨K, c_FloorError, c_BadNumber, c_BadPoint, c_BadCorner, c_Barred, c_NoCorner, c_BadTile, c_NoTile, c_BadSide, c_Root, c_Floor⟩ : Zs) mg :=
    { n_isinstance := O r_isinstance
      n_list := O r_list
      n_int := O r_int
      n_range := O r_range
      n_len := O r_len
      n_abs := O r_abs
      n_sorted := O r_sorted
      n_all := O r_all
      n_tuple := O r_tuple
      n_bool := O r_bool
      n_enumerate := O r_enumerate
      n_zip := O r_zip
      g_gcd := M r_gcd
      g_lcm := M r_lcm
      g_FloorError := M r_FloorError
      g_BadNumber := M r_BadNumber
      g_BadPoint := M r_BadPoint
      g_BadCorner := M r_BadCorner
      g_Barred := M r_Barred
      g_NoCorner := M r_NoCorner
      g_BadTile := M r_BadTile
      g_NoTile := M r_NoTile
      g_BadSide := M r_BadSide
      g_Root := M r_Root
      g_Floor := M r_Floor
      ki := ki_mk ⟨r_pg, r_hd, r_po, r_sa⟩ r_ca r_hm r_ic r_tc r_s1 r_s2
      nf_top := r_nt, nf_root := r_nr, nf_bottom := r_nb
      ow := ⟨r_sf, r_s1⟩
      ra := ⟨_, r_ra⟩
      rs := ⟨_, r_rs⟩
      rm := ⟨_, r_rm⟩
      c_Floor := ⟨o_pg_Floor, o_hd_Floor, o_po_Floor, o_sa_Floor⟩
      nf_Floor_shift := o_nf_Floor_shift
      nf_Floor__gauge := o_nf_Floor__gauge
      x_BadNumber := ⟨⟨nmBadNumber, qBadNumber, NBadNumber, bsBadNumber, _, snBadNumber, subBadNumber, abBadNumber, colBadNumber, ddBadNumber, m0BadNumber, m1BadNumber, m2BadNumber, m3BadNumber, m5BadNumber, e_L_BadNumber, rfl⟩, e_sa_BadNumber, e_e_BadNumber, e_t_BadNumber, e_k_BadNumber⟩
      xn_BadNumber := e_n_BadNumber
      xf_BadNumber := ⟨e_ga_BadNumber, e_gg_BadNumber, e_e_BadNumber, e_hd_BadNumber⟩
      xm_BadNumber := exm_mk e_e_BadNumber e_ic_BadNumber e_t_BadNumber e_s_BadNumber
      x_BadPoint := ⟨⟨nmBadPoint, qBadPoint, NBadPoint, bsBadPoint, _, snBadPoint, subBadPoint, abBadPoint, colBadPoint, ddBadPoint, m0BadPoint, m1BadPoint, m2BadPoint, m3BadPoint, m5BadPoint, e_L_BadPoint, rfl⟩, e_sa_BadPoint, e_e_BadPoint, e_t_BadPoint, e_k_BadPoint⟩
      xn_BadPoint := e_n_BadPoint
      xf_BadPoint := ⟨e_ga_BadPoint, e_gg_BadPoint, e_e_BadPoint, e_hd_BadPoint⟩
      xm_BadPoint := exm_mk e_e_BadPoint e_ic_BadPoint e_t_BadPoint e_s_BadPoint
      x_BadCorner := ⟨⟨nmBadCorner, qBadCorner, NBadCorner, bsBadCorner, _, snBadCorner, subBadCorner, abBadCorner, colBadCorner, ddBadCorner, m0BadCorner, m1BadCorner, m2BadCorner, m3BadCorner, m5BadCorner, e_L_BadCorner, rfl⟩, e_sa_BadCorner, e_e_BadCorner, e_t_BadCorner, e_k_BadCorner⟩
      xn_BadCorner := e_n_BadCorner
      xf_BadCorner := ⟨e_ga_BadCorner, e_gg_BadCorner, e_e_BadCorner, e_hd_BadCorner⟩
      xm_BadCorner := exm_mk e_e_BadCorner e_ic_BadCorner e_t_BadCorner e_s_BadCorner
      x_Barred := ⟨⟨nmBarred, qBarred, NBarred, bsBarred, _, snBarred, subBarred, abBarred, colBarred, ddBarred, m0Barred, m1Barred, m2Barred, m3Barred, m5Barred, e_L_Barred, rfl⟩, e_sa_Barred, e_e_Barred, e_t_Barred, e_k_Barred⟩
      xn_Barred := e_n_Barred
      xf_Barred := ⟨e_ga_Barred, e_gg_Barred, e_e_Barred, e_hd_Barred⟩
      xm_Barred := exm_mk e_e_Barred e_ic_Barred e_t_Barred e_s_Barred
      x_NoCorner := ⟨⟨nmNoCorner, qNoCorner, NNoCorner, bsNoCorner, _, snNoCorner, subNoCorner, abNoCorner, colNoCorner, ddNoCorner, m0NoCorner, m1NoCorner, m2NoCorner, m3NoCorner, m5NoCorner, e_L_NoCorner, rfl⟩, e_sa_NoCorner, e_e_NoCorner, e_t_NoCorner, e_k_NoCorner⟩
      xn_NoCorner := e_n_NoCorner
      xf_NoCorner := ⟨e_ga_NoCorner, e_gg_NoCorner, e_e_NoCorner, e_hd_NoCorner⟩
      xm_NoCorner := exm_mk e_e_NoCorner e_ic_NoCorner e_t_NoCorner e_s_NoCorner
      x_BadTile := ⟨⟨nmBadTile, qBadTile, NBadTile, bsBadTile, _, snBadTile, subBadTile, abBadTile, colBadTile, ddBadTile, m0BadTile, m1BadTile, m2BadTile, m3BadTile, m5BadTile, e_L_BadTile, rfl⟩, e_sa_BadTile, e_e_BadTile, e_t_BadTile, e_k_BadTile⟩
      xn_BadTile := e_n_BadTile
      xf_BadTile := ⟨e_ga_BadTile, e_gg_BadTile, e_e_BadTile, e_hd_BadTile⟩
      xm_BadTile := exm_mk e_e_BadTile e_ic_BadTile e_t_BadTile e_s_BadTile
      x_NoTile := ⟨⟨nmNoTile, qNoTile, NNoTile, bsNoTile, _, snNoTile, subNoTile, abNoTile, colNoTile, ddNoTile, m0NoTile, m1NoTile, m2NoTile, m3NoTile, m5NoTile, e_L_NoTile, rfl⟩, e_sa_NoTile, e_e_NoTile, e_t_NoTile, e_k_NoTile⟩
      xn_NoTile := e_n_NoTile
      xf_NoTile := ⟨e_ga_NoTile, e_gg_NoTile, e_e_NoTile, e_hd_NoTile⟩
      xm_NoTile := exm_mk e_e_NoTile e_ic_NoTile e_t_NoTile e_s_NoTile
      x_BadSide := ⟨⟨nmBadSide, qBadSide, NBadSide, bsBadSide, _, snBadSide, subBadSide, abBadSide, colBadSide, ddBadSide, m0BadSide, m1BadSide, m2BadSide, m3BadSide, m5BadSide, e_L_BadSide, rfl⟩, e_sa_BadSide, e_e_BadSide, e_t_BadSide, e_k_BadSide⟩
      xn_BadSide := e_n_BadSide
      xf_BadSide := ⟨e_ga_BadSide, e_gg_BadSide, e_e_BadSide, e_hd_BadSide⟩
      xm_BadSide := exm_mk e_e_BadSide e_ic_BadSide e_t_BadSide e_s_BadSide
    }
  have F_is_integral := fun_mk (st := s_is_integral) l_is_integral d_is_integral k_is_integral
  have B_is_integral := F_is_integral.binds (ps := ["thing"]) fun _ _ _ _ _ _ us hl => match us, hl with | [_], _ => rfl
  have F_BadPoint_init := fun_mk (st := s_BadPoint_init) l_BadPoint_init d_BadPoint_init k_BadPoint_init
  have B_BadPoint_init := F_BadPoint_init.binds (ps := ["self", "point"]) fun _ _ _ _ _ _ us hl => match us, hl with | [_, _], _ => rfl
  have F_BadCorner_init := fun_mk (st := s_BadCorner_init) l_BadCorner_init d_BadCorner_init k_BadCorner_init
  have B_BadCorner_init := F_BadCorner_init.binds (ps := ["self", "corner"]) fun _ _ _ _ _ _ us hl => match us, hl with | [_, _], _ => rfl
  have F_Barred_init := fun_mk (st := s_Barred_init) l_Barred_init d_Barred_init k_Barred_init
  have B_Barred_init := F_Barred_init.binds (ps := ["self", "direction"]) fun _ _ _ _ _ _ us hl => match us, hl with | [_, _], _ => rfl
  have F_NoCorner_init := fun_mk (st := s_NoCorner_init) l_NoCorner_init d_NoCorner_init k_NoCorner_init
  have B_NoCorner_init := F_NoCorner_init.binds (ps := ["self", "corner"]) fun _ _ _ _ _ _ us hl => match us, hl with | [_, _], _ => rfl
  have F_BadTile_init := fun_mk (st := s_BadTile_init) l_BadTile_init d_BadTile_init k_BadTile_init
  have B_BadTile_init := F_BadTile_init.binds (ps := ["self", "tile"]) fun _ _ _ _ _ _ us hl => match us, hl with | [_, _], _ => rfl
  have F_NoTile_init := fun_mk (st := s_NoTile_init) l_NoTile_init d_NoTile_init k_NoTile_init
  have B_NoTile_init := F_NoTile_init.binds (ps := ["self", "tile"]) fun _ _ _ _ _ _ us hl => match us, hl with | [_, _], _ => rfl
  have F_BadSide_init := fun_mk (st := s_BadSide_init) l_BadSide_init d_BadSide_init k_BadSide_init
  have B_BadSide_init := F_BadSide_init.binds (ps := ["self", "side"]) fun _ _ _ _ _ _ us hl => match us, hl with | [_, _], _ => rfl
  have F_BadNumber_init := fun_mk (st := s_BadNumber_init) l_BadNumber_init d_BadNumber_init k_BadNumber_init
  have B_BadNumber_init := F_BadNumber_init.binds (ps := ["self", "value"]) fun _ _ _ _ _ _ us hl => match us, hl with | [_, _], _ => rfl
  have F_Root_init := fun_mk (st := s_Root_init) l_Root_init d_Root_init k_Root_init
  have B_Root_init := F_Root_init.binds (ps := ["self", "top", "root", "bottom"]) fun _ _ _ _ _ _ us hl => match us, hl with | [_, _, _, _], _ => rfl
  have F_Root_eq := fun_mk (st := s_Root_eq) l_Root_eq d_Root_eq k_Root_eq
  have B_Root_eq := F_Root_eq.binds (ps := ["self", "other"]) fun _ _ _ _ _ _ us hl => match us, hl with | [_, _], _ => rfl
  have F_Root_neg := fun_mk (st := s_Root_neg) l_Root_neg d_Root_neg k_Root_neg
  have B_Root_neg := F_Root_neg.binds (ps := ["self"]) fun _ _ _ _ _ _ us hl => match us, hl with | [_], _ => rfl
  have F_is_number := fun_mk (st := s_is_number) l_is_number d_is_number k_is_number
  have B_is_number := F_is_number.binds (ps := ["thing"]) fun _ _ _ _ _ _ us hl => match us, hl with | [_], _ => rfl
  have F_as_root := fun_mk (st := s_as_root) l_as_root d_as_root k_as_root
  have B_as_root := F_as_root.binds (ps := ["number"]) fun _ _ _ _ _ _ us hl => match us, hl with | [_], _ => rfl
  have F_surd_sign := fun_mk (st := s_surd_sign) l_surd_sign d_surd_sign k_surd_sign
  have B_surd_sign := F_surd_sign.binds (ps := ["top", "root"]) fun _ _ _ _ _ _ us hl => match us, hl with | [_, _], _ => rfl
  have F_Root_add := fun_mk (st := s_Root_add) l_Root_add d_Root_add k_Root_add
  have B_Root_add := F_Root_add.binds (ps := ["self", "other"]) fun _ _ _ _ _ _ us hl => match us, hl with | [_, _], _ => rfl
  have F_Root_sub := fun_mk (st := s_Root_sub) l_Root_sub d_Root_sub k_Root_sub
  have B_Root_sub := F_Root_sub.binds (ps := ["self", "other"]) fun _ _ _ _ _ _ us hl => match us, hl with | [_, _], _ => rfl
  have F_Root_mul := fun_mk (st := s_Root_mul) l_Root_mul d_Root_mul k_Root_mul
  have B_Root_mul := F_Root_mul.binds (ps := ["self", "other"]) fun _ _ _ _ _ _ us hl => match us, hl with | [_, _], _ => rfl
  have F_Root_radd := fun_mk (st := s_Root_radd) l_Root_radd d_Root_radd k_Root_radd
  have B_Root_radd := F_Root_radd.binds (ps := ["self", "other"]) fun _ _ _ _ _ _ us hl => match us, hl with | [_, _], _ => rfl
  have F_Root_rmul := fun_mk (st := s_Root_rmul) l_Root_rmul d_Root_rmul k_Root_rmul
  have B_Root_rmul := F_Root_rmul.binds (ps := ["self", "other"]) fun _ _ _ _ _ _ us hl => match us, hl with | [_, _], _ => rfl
  have F_Root_rsub := fun_mk (st := s_Root_rsub) l_Root_rsub d_Root_rsub k_Root_rsub
  have B_Root_rsub := F_Root_rsub.binds (ps := ["self", "other"]) fun _ _ _ _ _ _ us hl => match us, hl with | [_, _], _ => rfl
  have F_Root_less := fun_mk (st := s_Root_less) l_Root_less d_Root_less k_Root_less
  have B_Root_less := F_Root_less.binds (ps := ["self", "number"]) fun _ _ _ _ _ _ us hl => match us, hl with | [_, _], _ => rfl
  have F__law_start := fun_mk (st := s__law_start) l__law_start d__law_start k__law_start
  have B__law_start := F__law_start.binds (ps := ["script"]) fun _ _ _ _ _ _ us hl => match us, hl with | [_], _ => rfl
  have F__law_mixed := fun_mk (st := s__law_mixed) l__law_mixed d__law_mixed k__law_mixed
  have B__law_mixed := F__law_mixed.binds (ps := ["cell", "count"]) fun _ _ _ _ _ _ us hl => match us, hl with | [_, _], _ => rfl
  have F__law_draw := fun_mk (st := s__law_draw) l__law_draw d__law_draw k__law_draw
  have B__law_draw := F__law_draw.binds (ps := ["state", "many"]) fun _ _ _ _ _ _ us hl => match us, hl with | [_, _], _ => rfl
  have F__law_between := fun_mk (st := s__law_between) l__law_between d__law_between k__law_between
  have B__law_between := F__law_between.binds (ps := ["state", "least", "most"]) fun _ _ _ _ _ _ us hl => match us, hl with | [_, _, _], _ => rfl
  have F__law_plus := fun_mk (st := s__law_plus) l__law_plus d__law_plus k__law_plus
  have B__law_plus := F__law_plus.binds (ps := ["one", "other"]) fun _ _ _ _ _ _ us hl => match us, hl with | [_, _], _ => rfl
  have F__law_minus := fun_mk (st := s__law_minus) l__law_minus d__law_minus k__law_minus
  have B__law_minus := F__law_minus.binds (ps := ["one", "other"]) fun _ _ _ _ _ _ us hl => match us, hl with | [_, _], _ => rfl
  have F__law_sign := fun_mk (st := s__law_sign) l__law_sign d__law_sign k__law_sign
  have B__law_sign := F__law_sign.binds (ps := ["number"]) fun _ _ _ _ _ _ us hl => match us, hl with | [_], _ => rfl
  have F_is_corner := fun_mk (st := s_is_corner) l_is_corner d_is_corner k_is_corner
  have B_is_corner := F_is_corner.binds (ps := ["thing"]) fun _ _ _ _ _ _ us hl => match us, hl with | [_], _ => rfl
  have F_check_corner := fun_mk (st := s_check_corner) l_check_corner d_check_corner k_check_corner
  have B_check_corner := F_check_corner.binds (ps := ["corner"]) fun _ _ _ _ _ _ us hl => match us, hl with | [_], _ => rfl
  have F_step := fun_mk (st := s_step) l_step d_step k_step
  have B_step := F_step.binds (ps := ["corner", "direction", "many"]) fun _ _ _ _ _ _ us hl => match us, hl with | [_, _, _], _ => rfl
  have F__law_star := fun_mk (st := s__law_star) l__law_star d__law_star k__law_star
  have B__law_star := F__law_star.binds (ps := ["corner"]) fun _ _ _ _ _ _ us hl => match us, hl with | [_], _ => rfl
  have F__law_corner := fun_mk (st := s__law_corner) l__law_corner d__law_corner k__law_corner
  have B__law_corner := F__law_corner.binds (ps := ["state"]) fun _ _ _ _ _ _ us hl => match us, hl with | [_], _ => rfl
  have F__law_is_corner := fun_mk (st := s__law_is_corner) l__law_is_corner d__law_is_corner k__law_is_corner
  have B__law_is_corner := F__law_is_corner.binds (ps := ["thing"]) fun _ _ _ _ _ _ us hl => match us, hl with | [_], _ => rfl
  have F_is_point := fun_mk (st := s_is_point) l_is_point d_is_point k_is_point
  have B_is_point := F_is_point.binds (ps := ["thing"]) fun _ _ _ _ _ _ us hl => match us, hl with | [_], _ => rfl
  have F_as_roots := fun_mk (st := s_as_roots) l_as_roots d_as_roots k_as_roots
  have B_as_roots := F_as_roots.binds (ps := ["point"]) fun _ _ _ _ _ _ us hl => match us, hl with | [_], _ => rfl
  have F__law_given := fun_mk (st := s__law_given) l__law_given d__law_given k__law_given
  have B__law_given := F__law_given.binds (ps := ["number"]) fun _ _ _ _ _ _ us hl => match us, hl with | [_], _ => rfl
  have F_check_point := fun_mk (st := s_check_point) l_check_point d_check_point k_check_point
  have B_check_point := F_check_point.binds (ps := ["point"]) fun _ _ _ _ _ _ us hl => match us, hl with | [_], _ => rfl
  have F_is_half := fun_mk (st := s_is_half) l_is_half d_is_half k_is_half
  have B_is_half := F_is_half.binds (ps := ["top", "bottom"]) fun _ _ _ _ _ _ us hl => match us, hl with | [_, _], _ => rfl
  have F_bars_evenly := fun_mk (st := s_bars_evenly) l_bars_evenly d_bars_evenly k_bars_evenly
  have B_bars_evenly := F_bars_evenly.binds (ps := ["number"]) fun _ _ _ _ _ _ us hl => match us, hl with | [_], _ => rfl
  have F_bars_oddly := fun_mk (st := s_bars_oddly) l_bars_oddly d_bars_oddly k_bars_oddly
  have B_bars_oddly := F_bars_oddly.binds (ps := ["number"]) fun _ _ _ _ _ _ us hl => match us, hl with | [_], _ => rfl
  have F_barred := fun_mk (st := s_barred) l_barred d_barred k_barred
  have B_barred := F_barred.binds (ps := ["shift"]) fun _ _ _ _ _ _ us hl => match us, hl with | [_], _ => rfl
  have F_gauge_of := fun_mk (st := s_gauge_of) l_gauge_of d_gauge_of k_gauge_of
  have B_gauge_of := F_gauge_of.binds (ps := ["shift"]) fun _ _ _ _ _ _ us hl => match us, hl with | [_], _ => rfl
  have F_beside := fun_mk (st := s_beside) l_beside d_beside k_beside
  have B_beside := F_beside.binds (ps := ["top", "root", "edge_top", "edge_root"]) fun _ _ _ _ _ _ us hl => match us, hl with | [_, _, _, _], _ => rfl
  have F_in_window := fun_mk (st := s_in_window) l_in_window d_in_window k_in_window
  have B_in_window := F_in_window.binds (ps := ["gauge", "corner"]) fun _ _ _ _ _ _ us hl => match us, hl with | [_, _], _ => rfl
  have F_Floor_init := fun_mk (st := s_Floor_init) l_Floor_init d_Floor_init k_Floor_init
  have B_Floor_init := F_Floor_init.binds (ps := ["self", "shift"]) fun _ _ _ _ _ _ us hl => match us, hl with | [_, _], _ => rfl
  have F_Floor_has_corner := fun_mk (st := s_Floor_has_corner) l_Floor_has_corner d_Floor_has_corner k_Floor_has_corner
  have B_Floor_has_corner := F_Floor_has_corner.binds (ps := ["self", "corner"]) fun _ _ _ _ _ _ us hl => match us, hl with | [_, _], _ => rfl
  have F__law_lines := fun_mk (st := s__law_lines) l__law_lines d__law_lines k__law_lines
  have B__law_lines := F__law_lines.binds (ps := ["x", "y"]) fun _ _ _ _ _ _ us hl => match us, hl with | [_, _], _ => rfl
  have F__law_inside := fun_mk (st := s__law_inside) l__law_inside d__law_inside k__law_inside
  have B__law_inside := F__law_inside.binds (ps := ["x", "y"]) fun _ _ _ _ _ _ us hl => match us, hl with | [_, _], _ => rfl
  have F__law_is_odd_half := fun_mk (st := s__law_is_odd_half) l__law_is_odd_half d__law_is_odd_half k__law_is_odd_half
  have B__law_is_odd_half := F__law_is_odd_half.binds (ps := ["top", "bottom"]) fun _ _ _ _ _ _ us hl => match us, hl with | [_, _], _ => rfl
  have F__law_barred := fun_mk (st := s__law_barred) l__law_barred d__law_barred k__law_barred
  have B__law_barred := F__law_barred.binds (ps := ["x", "y"]) fun _ _ _ _ _ _ us hl => match us, hl with | [_, _], _ => rfl
  have F__law_spot := fun_mk (st := s__law_spot) l__law_spot d__law_spot k__law_spot
  have B__law_spot := F__law_spot.binds (ps := ["state"]) fun _ _ _ _ _ _ us hl => match us, hl with | [_], _ => rfl
  have F__law_shift := fun_mk (st := s__law_shift) l__law_shift d__law_shift k__law_shift
  have B__law_shift := F__law_shift.binds (ps := ["corner", "spot"]) fun _ _ _ _ _ _ us hl => match us, hl with | [_, _], _ => rfl
  have F__law_has := fun_mk (st := s__law_has) l__law_has d__law_has k__law_has
  have B__law_has := F__law_has.binds (ps := ["shift", "corner"]) fun _ _ _ _ _ _ us hl => match us, hl with | [_, _], _ => rfl
  have F_Floorways := fun_mk (st := s_Floorways) l_Floorways d_Floorways k_Floorways
  have B_Floorways := F_Floorways.binds (ps := ["self", "corner"]) fun _ _ _ _ _ _ us hl => match us, hl with | [_, _], _ => rfl
  have F_Floor_sides := fun_mk (st := s_Floor_sides) l_Floor_sides d_Floor_sides k_Floor_sides
  have B_Floor_sides := F_Floor_sides.binds (ps := ["self", "corner"]) fun _ _ _ _ _ _ us hl => match us, hl with | [_, _], _ => rfl
  have F__law_step := fun_mk (st := s__law_step) l__law_step d__law_step k__law_step
  have B__law_step := F__law_step.binds (ps := ["corner", "way", "many"]) fun _ _ _ _ _ _ us hl => match us, hl with | [_, _, _], _ => rfl
  have F__law_sides := fun_mk (st := s__law_sides) l__law_sides d__law_sides k__law_sides
  have B__law_sides := F__law_sides.binds (ps := ["shift", "corner"]) fun _ _ _ _ _ _ us hl => match us, hl with | [_, _], _ => rfl
  have F__law_floor := fun_mk (st := s__law_floor) l__law_floor d__law_floor k__law_floor
  have B__law_floor := F__law_floor.binds (ps := ["shift"]) fun _ _ _ _ _ _ us hl => match us, hl with | [_], _ => rfl
  have F_is_tile := fun_mk (st := s_is_tile) l_is_tile d_is_tile k_is_tile
  have B_is_tile := F_is_tile.binds (ps := ["thing"]) fun _ _ _ _ _ _ us hl => match us, hl with | [_], _ => rfl
  have F_check_tile := fun_mk (st := s_check_tile) l_check_tile d_check_tile k_check_tile
  have B_check_tile := F_check_tile.binds (ps := ["tile"]) fun _ _ _ _ _ _ us hl => match us, hl with | [_], _ => rfl
  have F_tile_corners := fun_mk (st := s_tile_corners) l_tile_corners d_tile_corners k_tile_corners
  have B_tile_corners := F_tile_corners.binds (ps := ["tile"]) fun _ _ _ _ _ _ us hl => match us, hl with | [_], _ => rfl
  have F_Floor_has_tile := fun_mk (st := s_Floor_has_tile) l_Floor_has_tile d_Floor_has_tile k_Floor_has_tile
  have B_Floor_has_tile := F_Floor_has_tile.binds (ps := ["self", "tile"]) fun _ _ _ _ _ _ us hl => match us, hl with | [_, _], _ => rfl
  have F__law_ends := fun_mk (st := s__law_ends) l__law_ends d__law_ends k__law_ends
  have B__law_ends := F__law_ends.binds (ps := ["tile"]) fun _ _ _ _ _ _ us hl => match us, hl with | [_], _ => rfl
  have F__law_has_tile := fun_mk (st := s__law_has_tile) l__law_has_tile d__law_has_tile k__law_has_tile
  have B__law_has_tile := F__law_has_tile.binds (ps := ["shift", "tile"]) fun _ _ _ _ _ _ us hl => match us, hl with | [_, _], _ => rfl
  have F__law_tile_between := fun_mk (st := s__law_tile_between) l__law_tile_between d__law_tile_between k__law_tile_between
  have B__law_tile_between := F__law_tile_between.binds (ps := ["corner", "one", "other"]) fun _ _ _ _ _ _ us hl => match us, hl with | [_, _, _], _ => rfl
  have F__law_tiles_at := fun_mk (st := s__law_tiles_at) l__law_tiles_at d__law_tiles_at k__law_tiles_at
  have B__law_tiles_at := F__law_tiles_at.binds (ps := ["shift", "corner"]) fun _ _ _ _ _ _ us hl => match us, hl with | [_, _], _ => rfl
  have F_tile_between := fun_mk (st := s_tile_between) l_tile_between d_tile_between k_tile_between
  have B_tile_between := F_tile_between.binds (ps := ["corner", "one", "other"]) fun _ _ _ _ _ _ us hl => match us, hl with | [_, _, _], _ => rfl
  have F_Floor_tiles_at := fun_mk (st := s_Floor_tiles_at) l_Floor_tiles_at d_Floor_tiles_at k_Floor_tiles_at
  have B_Floor_tiles_at := F_Floor_tiles_at.binds (ps := ["self", "corner"]) fun _ _ _ _ _ _ us hl => match us, hl with | [_, _], _ => rfl
  have F_Floor_across := fun_mk (st := s_Floor_across) l_Floor_across d_Floor_across k_Floor_across
  have B_Floor_across := F_Floor_across.binds (ps := ["self", "tile", "side"]) fun _ _ _ _ _ _ us hl => match us, hl with | [_, _, _], _ => rfl
  have F__law_is_tile := fun_mk (st := s__law_is_tile) l__law_is_tile d__law_is_tile k__law_is_tile
  have B__law_is_tile := F__law_is_tile.binds (ps := ["thing"]) fun _ _ _ _ _ _ us hl => match us, hl with | [_], _ => rfl
  have F__law_side_ends := fun_mk (st := s__law_side_ends) l__law_side_ends d__law_side_ends k__law_side_ends
  have B__law_side_ends := F__law_side_ends.binds (ps := ["tile", "side"]) fun _ _ _ _ _ _ us hl => match us, hl with | [_, _], _ => rfl
  have F__law_side_with := fun_mk (st := s__law_side_with) l__law_side_with d__law_side_with k__law_side_with
  have B__law_side_with := F__law_side_with.binds (ps := ["tile", "ends"]) fun _ _ _ _ _ _ us hl => match us, hl with | [_, _], _ => rfl
  have F__law_common := fun_mk (st := s__law_common) l__law_common d__law_common k__law_common
  have B__law_common := F__law_common.binds (ps := ["one", "other"]) fun _ _ _ _ _ _ us hl => match us, hl with | [_, _], _ => rfl
  have F__law_round := fun_mk (st := s__law_round) l__law_round d__law_round k__law_round
  have B__law_round := F__law_round.binds (ps := ["floor", "tile", "corner"]) fun _ _ _ _ _ _ us hl => match us, hl with | [_, _, _], _ => rfl
  have F_law := fun_mk (st := s_law) l_law d_law k_law
  refine ⟨PySem.W.fnOf "law" "law" (defArgs s_law) (defBody s_law) (defScope s_law) .none kV_law dc_law pm_law an_law cd_law ct_law, fun s v => .of_eq rfl, fun base _ _ => ?_⟩
  have h_is_integral := ok_is_integral (P := P) (w := w) (base := base) T  ⟨_, _, F_is_integral, B_is_integral, M a_is_integral⟩
  have h_BadPoint := ok_BadPoint_init (P := P) (w := w) (base := base) T  ⟨_, _, F_BadPoint_init, B_BadPoint_init, M r_BadPoint, a_BadPoint_init, t_BadPoint_init⟩
  have h_BadCorner := ok_BadCorner_init (P := P) (w := w) (base := base) T  ⟨_, _, F_BadCorner_init, B_BadCorner_init, M r_BadCorner, a_BadCorner_init, t_BadCorner_init⟩
  have h_Barred := ok_Barred_init (P := P) (w := w) (base := base) T  ⟨_, _, F_Barred_init, B_Barred_init, M r_Barred, a_Barred_init, t_Barred_init⟩
  have h_NoCorner := ok_NoCorner_init (P := P) (w := w) (base := base) T  ⟨_, _, F_NoCorner_init, B_NoCorner_init, M r_NoCorner, a_NoCorner_init, t_NoCorner_init⟩
  have h_BadTile := ok_BadTile_init (P := P) (w := w) (base := base) T  ⟨_, _, F_BadTile_init, B_BadTile_init, M r_BadTile, a_BadTile_init, t_BadTile_init⟩
  have h_NoTile := ok_NoTile_init (P := P) (w := w) (base := base) T  ⟨_, _, F_NoTile_init, B_NoTile_init, M r_NoTile, a_NoTile_init, t_NoTile_init⟩
  have h_BadSide := ok_BadSide_init (P := P) (w := w) (base := base) T  ⟨_, _, F_BadSide_init, B_BadSide_init, M r_BadSide, a_BadSide_init, t_BadSide_init⟩
  have h_BadNumber := ok_BadNumber_init (P := P) (w := w) (base := base) T  ⟨_, _, F_BadNumber_init, B_BadNumber_init, M r_BadNumber, a_BadNumber_init, t_BadNumber_init⟩
  have h_Root := ok_Root_init (P := P) (w := w) (base := base) T h_BadNumber h_is_integral ⟨_, _, F_Root_init, B_Root_init, ⟨mk_Root_init, a_Root_init, i_Root_init, kc_Root_init⟩, M r_Root⟩
  have h_Root_eq := ok_Root_eq (P := P) (w := w) (base := base) T h_is_integral ⟨_, _, F_Root_eq, B_Root_eq, ⟨a_Root_eq, i_Root_eq, k_Root_eq⟩⟩
  have h_Root_neg := ok_Root_neg (P := P) (w := w) (base := base) T h_Root ⟨_, _, F_Root_neg, B_Root_neg, ⟨a_Root_neg, i_Root_neg, k_Root_neg⟩⟩
  have h_is_number := ok_is_number (P := P) (w := w) (base := base) T h_is_integral ⟨_, _, F_is_number, B_is_number, M a_is_number⟩
  have h_as_root := ok_as_root (P := P) (w := w) (base := base) T h_Root ⟨_, _, F_as_root, B_as_root, M a_as_root⟩
  have h_surd_sign := ok_surd_sign (P := P) (w := w) (base := base) T  ⟨_, _, F_surd_sign, B_surd_sign, M a_surd_sign⟩
  have h_Root_add := ok_Root_add (P := P) (w := w) (base := base) T h_Root h_as_root h_is_number ⟨_, _, F_Root_add, B_Root_add, ⟨a_Root_add, i_Root_add, k_Root_add⟩⟩
  have h_Root_sub := ok_Root_sub (P := P) (w := w) (base := base) T h_Root h_as_root h_is_number ⟨_, _, F_Root_sub, B_Root_sub, ⟨a_Root_sub, i_Root_sub, k_Root_sub⟩⟩
  have h_Root_mul := ok_Root_mul (P := P) (w := w) (base := base) T h_Root h_as_root h_is_number ⟨_, _, F_Root_mul, B_Root_mul, ⟨a_Root_mul, i_Root_mul, k_Root_mul⟩⟩
  have h_Root_radd := ok_Root_radd (P := P) (w := w) (base := base) T h_Root_add ⟨_, _, F_Root_radd, B_Root_radd, ⟨a_Root_radd, i_Root_radd, k_Root_radd⟩⟩
  have h_Root_rmul := ok_Root_rmul (P := P) (w := w) (base := base) T h_Root_mul ⟨_, _, F_Root_rmul, B_Root_rmul, ⟨a_Root_rmul, i_Root_rmul, k_Root_rmul⟩⟩
  have h_Root_rsub := ok_Root_rsub (P := P) (w := w) (base := base) T h_Root_add h_Root_neg ⟨_, _, F_Root_rsub, B_Root_rsub, ⟨a_Root_rsub, i_Root_rsub, k_Root_rsub⟩⟩
  have h_Root_less := ok_Root_less (P := P) (w := w) (base := base) T h_surd_sign h_as_root h_is_number h_BadNumber ⟨_, _, F_Root_less, B_Root_less, ⟨a_Root_less, i_Root_less, k_Root_less⟩⟩
  have h__law_start := ok__law_start (P := P) (w := w) (base := base) T  ⟨_, _, F__law_start, B__law_start, M a__law_start⟩
  have h__law_mixed := ok__law_mixed (P := P) (w := w) (base := base) T  ⟨_, _, F__law_mixed, B__law_mixed, M a__law_mixed⟩
  have h__law_draw := ok__law_draw (P := P) (w := w) (base := base) T h__law_mixed ⟨_, _, F__law_draw, B__law_draw, M a__law_draw⟩
  have h__law_between := ok__law_between (P := P) (w := w) (base := base) T h__law_draw ⟨_, _, F__law_between, B__law_between, M a__law_between⟩
  have h__law_plus := ok__law_plus (P := P) (w := w) (base := base) T  ⟨_, _, F__law_plus, B__law_plus, M a__law_plus⟩
  have h__law_minus := ok__law_minus (P := P) (w := w) (base := base) T  ⟨_, _, F__law_minus, B__law_minus, M a__law_minus⟩
  have h__law_sign := ok__law_sign (P := P) (w := w) (base := base) T  ⟨_, _, F__law_sign, B__law_sign, M a__law_sign⟩
  have h_is_corner := ok_is_corner (P := P) (w := w) (base := base) T h_is_integral ⟨_, _, F_is_corner, B_is_corner, M a_is_corner⟩
  have h_check_corner := ok_check_corner (P := P) (w := w) (base := base) T h_is_corner h_BadCorner ⟨_, _, F_check_corner, B_check_corner, M a_check_corner⟩
  have h_step := ok_step (P := P) (w := w) (base := base) T  ⟨_, _, F_step, B_step, M a_step⟩
  have h__law_star := ok__law_star (P := P) (w := w) (base := base) T  ⟨_, _, F__law_star, B__law_star, M a__law_star⟩
  have h__law_corner := ok__law_corner (P := P) (w := w) (base := base) T h__law_between h__law_draw ⟨_, _, F__law_corner, B__law_corner, M a__law_corner⟩
  have h__law_is_corner := ok__law_is_corner (P := P) (w := w) (base := base) T  ⟨_, _, F__law_is_corner, B__law_is_corner, M a__law_is_corner⟩
  have h_is_point := ok_is_point (P := P) (w := w) (base := base) T h_is_number ⟨_, _, F_is_point, B_is_point, M a_is_point⟩
  have h_as_roots := ok_as_roots (P := P) (w := w) (base := base) T h_as_root ⟨_, _, F_as_roots, B_as_roots, M a_as_roots⟩
  have h__law_given := ok__law_given (P := P) (w := w) (base := base) T h_Root ⟨_, _, F__law_given, B__law_given, M a__law_given⟩
  have h_check_point := ok_check_point (P := P) (w := w) (base := base) T h_is_point h_BadPoint ⟨_, _, F_check_point, B_check_point, M a_check_point⟩
  have h_is_half := ok_is_half (P := P) (w := w) (base := base) T  ⟨_, _, F_is_half, B_is_half, M a_is_half⟩
  have h_bars_evenly := ok_bars_evenly (P := P) (w := w) (base := base) T h_is_half ⟨_, _, F_bars_evenly, B_bars_evenly, M a_bars_evenly⟩
  have h_bars_oddly := ok_bars_oddly (P := P) (w := w) (base := base) T h_is_half ⟨_, _, F_bars_oddly, B_bars_oddly, M a_bars_oddly⟩
  have h_barred := ok_barred (P := P) (w := w) (base := base) T h_bars_oddly h_bars_evenly h_as_roots h_check_point h_Root_add h_Root_radd h_Root_sub h_Root_rsub ⟨_, _, F_barred, B_barred, M a_barred⟩
  have h_gauge_of := ok_gauge_of (P := P) (w := w) (base := base) T  ⟨_, _, F_gauge_of, B_gauge_of, M a_gauge_of⟩
  have h_beside := ok_beside (P := P) (w := w) (base := base) T h_surd_sign ⟨_, _, F_beside, B_beside, M a_beside⟩
  have h_in_window := ok_in_window (P := P) (w := w) (base := base) T h_beside ⟨_, _, F_in_window, B_in_window, M a_in_window⟩
  have h_Floor := ok_Floor_init (P := P) (w := w) (base := base) T h_gauge_of h_as_roots h_Barred h_barred h_check_point ⟨_, _, F_Floor_init, B_Floor_init, ⟨mk_Floor_init, a_Floor_init, i_Floor_init, kc_Floor_init⟩, M r_Floor⟩
  have h_Floor_has_corner := ok_Floor_has_corner (P := P) (w := w) (base := base) T h_in_window h_check_corner ⟨_, _, F_Floor_has_corner, B_Floor_has_corner, ⟨a_Floor_has_corner, i_Floor_has_corner, k_Floor_has_corner⟩⟩
  have h__law_lines := ok__law_lines (P := P) (w := w) (base := base) T h__law_minus h__law_plus ⟨_, _, F__law_lines, B__law_lines, M a__law_lines⟩
  have h__law_inside := ok__law_inside (P := P) (w := w) (base := base) T h__law_lines h__law_sign h__law_plus h__law_minus ⟨_, _, F__law_inside, B__law_inside, M a__law_inside⟩
  have h__law_is_odd_half := ok__law_is_odd_half (P := P) (w := w) (base := base) T  ⟨_, _, F__law_is_odd_half, B__law_is_odd_half, M a__law_is_odd_half⟩
  have h__law_barred := ok__law_barred (P := P) (w := w) (base := base) T h__law_lines h__law_is_odd_half ⟨_, _, F__law_barred, B__law_barred, M a__law_barred⟩
  have h__law_spot := ok__law_spot (P := P) (w := w) (base := base) T h__law_barred h__law_inside h__law_between h__law_draw ⟨_, _, F__law_spot, B__law_spot, M a__law_spot⟩
  have h__law_shift := ok__law_shift (P := P) (w := w) (base := base) T h__law_minus h__law_star ⟨_, _, F__law_shift, B__law_shift, M a__law_shift⟩
  have h__law_has := ok__law_has (P := P) (w := w) (base := base) T h__law_inside h__law_minus h__law_star ⟨_, _, F__law_has, B__law_has, M a__law_has⟩
  have h_Floorways := ok_Floorways (P := P) (w := w) (base := base) T h_in_window h_step ⟨_, _, F_Floorways, B_Floorways, ⟨a_Floorways, i_Floorways, k_Floorways⟩⟩
  have h_Floor_sides := ok_Floor_sides (P := P) (w := w) (base := base) T h_NoCorner h_Floorways h_Floor_has_corner ⟨_, _, F_Floor_sides, B_Floor_sides, ⟨a_Floor_sides, i_Floor_sides, k_Floor_sides⟩⟩
  have h__law_step := ok__law_step (P := P) (w := w) (base := base) T  ⟨_, _, F__law_step, B__law_step, M a__law_step⟩
  have h__law_sides := ok__law_sides (P := P) (w := w) (base := base) T h__law_has h__law_step ⟨_, _, F__law_sides, B__law_sides, M a__law_sides⟩
  have h__law_floor := ok__law_floor (P := P) (w := w) (base := base) T h_Floor h__law_given ⟨_, _, F__law_floor, B__law_floor, M a__law_floor⟩
  have h_is_tile := ok_is_tile (P := P) (w := w) (base := base) T h_is_integral h_is_corner ⟨_, _, F_is_tile, B_is_tile, M a_is_tile⟩
  have h_check_tile := ok_check_tile (P := P) (w := w) (base := base) T h_is_tile h_BadTile ⟨_, _, F_check_tile, B_check_tile, M a_check_tile⟩
  have h_tile_corners := ok_tile_corners (P := P) (w := w) (base := base) T h_step h_check_tile ⟨_, _, F_tile_corners, B_tile_corners, M a_tile_corners⟩
  have h_Floor_has_tile := ok_Floor_has_tile (P := P) (w := w) (base := base) T h_tile_corners h_in_window ⟨_, _, F_Floor_has_tile, B_Floor_has_tile, ⟨a_Floor_has_tile, i_Floor_has_tile, k_Floor_has_tile⟩⟩
  have h__law_ends := ok__law_ends (P := P) (w := w) (base := base) T h__law_step ⟨_, _, F__law_ends, B__law_ends, M a__law_ends⟩
  have h__law_has_tile := ok__law_has_tile (P := P) (w := w) (base := base) T h__law_ends h__law_has ⟨_, _, F__law_has_tile, B__law_has_tile, M a__law_has_tile⟩
  have h__law_tile_between := ok__law_tile_between (P := P) (w := w) (base := base) T h__law_step ⟨_, _, F__law_tile_between, B__law_tile_between, M a__law_tile_between⟩
  have h__law_tiles_at := ok__law_tiles_at (P := P) (w := w) (base := base) T h__law_tile_between h__law_sides ⟨_, _, F__law_tiles_at, B__law_tiles_at, M a__law_tiles_at⟩
  have h_tile_between := ok_tile_between (P := P) (w := w) (base := base) T h_step ⟨_, _, F_tile_between, B_tile_between, M a_tile_between⟩
  have h_Floor_tiles_at := ok_Floor_tiles_at (P := P) (w := w) (base := base) T h_tile_between h_Floor_sides ⟨_, _, F_Floor_tiles_at, B_Floor_tiles_at, ⟨a_Floor_tiles_at, i_Floor_tiles_at, k_Floor_tiles_at⟩⟩
  have h_Floor_across := ok_Floor_across (P := P) (w := w) (base := base) T h_step h_is_integral h_BadSide h_NoTile h_Floor_tiles_at h_Floorways h_Floor_has_tile ⟨_, _, F_Floor_across, B_Floor_across, ⟨a_Floor_across, i_Floor_across, k_Floor_across⟩⟩
  have h__law_is_tile := ok__law_is_tile (P := P) (w := w) (base := base) T h__law_is_corner ⟨_, _, F__law_is_tile, B__law_is_tile, M a__law_is_tile⟩
  have h__law_side_ends := ok__law_side_ends (P := P) (w := w) (base := base) T h__law_ends ⟨_, _, F__law_side_ends, B__law_side_ends, M a__law_side_ends⟩
  have h__law_side_with := ok__law_side_with (P := P) (w := w) (base := base) T h__law_side_ends ⟨_, _, F__law_side_with, B__law_side_with, M a__law_side_with⟩
  have h__law_common := ok__law_common (P := P) (w := w) (base := base) T h__law_ends ⟨_, _, F__law_common, B__law_common, M a__law_common⟩
  have h__law_round := ok__law_round (P := P) (w := w) (base := base) T h__law_side_ends h__law_side_with h__law_is_tile h_Floor_across h_Floor_tiles_at ⟨_, _, F__law_round, B__law_round, M a__law_round⟩
  exact (ok_law (P := P) (w := w) (base := base) T h__law_round h__law_ends h__law_draw h__law_side_with h__law_common h__law_has_tile h__law_is_tile h__law_side_ends h__law_tiles_at h__law_floor h__law_shift h__law_spot h__law_corner h__law_start h_Floor_across F_law).imp fun vs H Q E hs => hs
theorem q_r_FloorError {K : PySem.W.Frag} (hb : (bsK K).all id = true) : PySem.W.nsIn K mainGlobals "FloorError" = some (some (.ref (A_c_FloorError K))) := isR_ok (nthB hb 0)
theorem q_r_BadNumber {K : PySem.W.Frag} (hb : (bsK K).all id = true) : PySem.W.nsIn K mainGlobals "BadNumber" = some (some (.ref (A_c_BadNumber K))) := isR_ok (nthB hb 1)
theorem q_r_BadPoint {K : PySem.W.Frag} (hb : (bsK K).all id = true) : PySem.W.nsIn K mainGlobals "BadPoint" = some (some (.ref (A_c_BadPoint K))) := isR_ok (nthB hb 2)
theorem q_r_BadCorner {K : PySem.W.Frag} (hb : (bsK K).all id = true) : PySem.W.nsIn K mainGlobals "BadCorner" = some (some (.ref (A_c_BadCorner K))) := isR_ok (nthB hb 3)
theorem q_r_Barred {K : PySem.W.Frag} (hb : (bsK K).all id = true) : PySem.W.nsIn K mainGlobals "Barred" = some (some (.ref (A_c_Barred K))) := isR_ok (nthB hb 4)
theorem q_r_NoCorner {K : PySem.W.Frag} (hb : (bsK K).all id = true) : PySem.W.nsIn K mainGlobals "NoCorner" = some (some (.ref (A_c_NoCorner K))) := isR_ok (nthB hb 5)
theorem q_r_BadTile {K : PySem.W.Frag} (hb : (bsK K).all id = true) : PySem.W.nsIn K mainGlobals "BadTile" = some (some (.ref (A_c_BadTile K))) := isR_ok (nthB hb 6)
theorem q_r_NoTile {K : PySem.W.Frag} (hb : (bsK K).all id = true) : PySem.W.nsIn K mainGlobals "NoTile" = some (some (.ref (A_c_NoTile K))) := isR_ok (nthB hb 7)
theorem q_r_BadSide {K : PySem.W.Frag} (hb : (bsK K).all id = true) : PySem.W.nsIn K mainGlobals "BadSide" = some (some (.ref (A_c_BadSide K))) := isR_ok (nthB hb 8)
theorem q_r_Root {K : PySem.W.Frag} (hb : (bsK K).all id = true) : PySem.W.nsIn K mainGlobals "Root" = some (some (.ref (A_c_Root K))) := isR_ok (nthB hb 9)
theorem q_r_Floor {K : PySem.W.Frag} (hb : (bsK K).all id = true) : PySem.W.nsIn K mainGlobals "Floor" = some (some (.ref (A_c_Floor K))) := isR_ok (nthB hb 10)
theorem q_r_gcd {K : PySem.W.Frag} (hb : (bsK K).all id = true) : PySem.W.nsIn K mainGlobals "gcd" = some (some (.builtin "math.gcd")) := dok (nthB hb 11)
theorem q_r_lcm {K : PySem.W.Frag} (hb : (bsK K).all id = true) : PySem.W.nsIn K mainGlobals "lcm" = some (some (.builtin "math.lcm")) := dok (nthB hb 12)
theorem q_r_isinstance {K : PySem.W.Frag} (hb : (bsK K).all id = true) : PySem.W.nsIn K mainGlobals "isinstance" = some none := dok (nthB hb 13)
theorem q_r_list {K : PySem.W.Frag} (hb : (bsK K).all id = true) : PySem.W.nsIn K mainGlobals "list" = some none := dok (nthB hb 14)
theorem q_r_int {K : PySem.W.Frag} (hb : (bsK K).all id = true) : PySem.W.nsIn K mainGlobals "int" = some none := dok (nthB hb 15)
theorem q_r_range {K : PySem.W.Frag} (hb : (bsK K).all id = true) : PySem.W.nsIn K mainGlobals "range" = some none := dok (nthB hb 16)
theorem q_r_len {K : PySem.W.Frag} (hb : (bsK K).all id = true) : PySem.W.nsIn K mainGlobals "len" = some none := dok (nthB hb 17)
theorem q_r_abs {K : PySem.W.Frag} (hb : (bsK K).all id = true) : PySem.W.nsIn K mainGlobals "abs" = some none := dok (nthB hb 18)
theorem q_r_sorted {K : PySem.W.Frag} (hb : (bsK K).all id = true) : PySem.W.nsIn K mainGlobals "sorted" = some none := dok (nthB hb 19)
theorem q_r_all {K : PySem.W.Frag} (hb : (bsK K).all id = true) : PySem.W.nsIn K mainGlobals "all" = some none := dok (nthB hb 20)
theorem q_r_tuple {K : PySem.W.Frag} (hb : (bsK K).all id = true) : PySem.W.nsIn K mainGlobals "tuple" = some none := dok (nthB hb 21)
theorem q_r_bool {K : PySem.W.Frag} (hb : (bsK K).all id = true) : PySem.W.nsIn K mainGlobals "bool" = some none := dok (nthB hb 22)
theorem q_r_enumerate {K : PySem.W.Frag} (hb : (bsK K).all id = true) : PySem.W.nsIn K mainGlobals "enumerate" = some none := dok (nthB hb 23)
theorem q_r_zip {K : PySem.W.Frag} (hb : (bsK K).all id = true) : PySem.W.nsIn K mainGlobals "zip" = some none := dok (nthB hb 24)
theorem q_r_pg {K : PySem.W.Frag} (hb : (bsK K).all id = true) : PySem.W.plainGet K (A_c_Root K) Str.empty = true := dok (nthB hb 25)
theorem q_r_hd {K : PySem.W.Frag} (hb : (bsK K).all id = true) : PySem.W.hasDictIn K (A_c_Root K) = true := dok (nthB hb 26)
theorem q_r_po {K : PySem.W.Frag} (hb : (bsK K).all id = true) : PySem.W.plainOver K (A_c_Root K) = true := dok (nthB hb 27)
theorem q_r_sa {K : PySem.W.Frag} (hb : (bsK K).all id = true) : PySem.W.findIn K (.ref (A_c_Root K)) "__setattr__" = some (some (.builtin "object.__setattr__")) := dok (nthB hb 28)
theorem q_r_ca {K : PySem.W.Frag} (hb : (bsK K).all id = true) : PySem.W.findIn K (.ref (A_c_Root K)) "__class__" = some (some (.builtin "object.__class__")) := dok (nthB hb 29)
theorem q_r_hm {K : PySem.W.Frag} (hb : (bsK K).all id = true) : PySem.W.mroIn K (A_c_Root K) (.type "object") = some true := dok (nthB hb 30)
theorem q_r_ic {K : PySem.W.Frag} (hb : (bsK K).all id = true) : PySem.W.isClsIn K (A_c_Root K) = true := dok (nthB hb 31)
theorem q_r_tc {K : PySem.W.Frag} (hb : (bsK K).all id = true) : PySem.W.typeIn K (.ref (A_c_Root K)) = some (.type "type") := dok (nthB hb 32)
theorem q_r_s1 {K : PySem.W.Frag} (hb : (bsK K).all id = true) : PySem.W.mroIn K (A_c_Root K) (.type "int") = some false := dok (nthB hb 33)
theorem q_r_s2 {K : PySem.W.Frag} (hb : (bsK K).all id = true) : PySem.W.mroIn K (A_c_Root K) (.type "bool") = some false := dok (nthB hb 34)
theorem q_r_nt {K : PySem.W.Frag} (hb : (bsK K).all id = true) : PySem.W.findIn K (.ref (A_c_Root K)) "top" = some none := dok (nthB hb 35)
theorem q_r_nr {K : PySem.W.Frag} (hb : (bsK K).all id = true) : PySem.W.findIn K (.ref (A_c_Root K)) "root" = some none := dok (nthB hb 36)
theorem q_r_nb {K : PySem.W.Frag} (hb : (bsK K).all id = true) : PySem.W.findIn K (.ref (A_c_Root K)) "bottom" = some none := dok (nthB hb 37)
theorem q_r_sf {K : PySem.W.Frag} (hb : (bsK K).all id = true) : PySem.W.selfFirst K (A_c_Root K) = true := dok (nthB hb 38)
theorem q_r_ra {K : PySem.W.Frag} (hb : (bsK K).all id = true) : PySem.W.findIn K (.ref (A_c_Root K)) "__radd__" = some (some (.ref (A_gAX K))) := isR_ok (nthB hb 39)
theorem q_r_rs {K : PySem.W.Frag} (hb : (bsK K).all id = true) : PySem.W.findIn K (.ref (A_c_Root K)) "__rsub__" = some (some (.ref (A_gSX K))) := isR_ok (nthB hb 40)
theorem q_r_rm {K : PySem.W.Frag} (hb : (bsK K).all id = true) : PySem.W.findIn K (.ref (A_c_Root K)) "__rmul__" = some (some (.ref (A_gMX K))) := isR_ok (nthB hb 41)
theorem q_o_pg_Floor {K : PySem.W.Frag} (hb : (bsK K).all id = true) : PySem.W.plainGet K (A_c_Floor K) Str.empty = true := dok (nthB hb 42)
theorem q_o_hd_Floor {K : PySem.W.Frag} (hb : (bsK K).all id = true) : PySem.W.hasDictIn K (A_c_Floor K) = true := dok (nthB hb 43)
theorem q_o_po_Floor {K : PySem.W.Frag} (hb : (bsK K).all id = true) : PySem.W.plainOver K (A_c_Floor K) = true := dok (nthB hb 44)
theorem q_o_sa_Floor {K : PySem.W.Frag} (hb : (bsK K).all id = true) : PySem.W.findIn K (.ref (A_c_Floor K)) "__setattr__" = some (some (.builtin "object.__setattr__")) := dok (nthB hb 45)
theorem q_o_nf_Floor_shift {K : PySem.W.Frag} (hb : (bsK K).all id = true) : PySem.W.findIn K (.ref (A_c_Floor K)) "shift" = some none := dok (nthB hb 46)
theorem q_o_nf_Floor__gauge {K : PySem.W.Frag} (hb : (bsK K).all id = true) : PySem.W.findIn K (.ref (A_c_Floor K)) "_gauge" = some none := dok (nthB hb 47)
theorem q_e_sa_BadNumber {K : PySem.W.Frag} (hb : (bsK K).all id = true) : PySem.W.findIn K (.ref (A_c_BadNumber K)) "__setattr__" = some (some (.builtin "object.__setattr__")) := dok (nthB hb 49)
theorem q_e_e_BadNumber {K : PySem.W.Frag} (hb : (bsK K).all id = true) : PySem.W.mroIn K (A_c_BadNumber K) (.type "BaseException") = some true := dok (nthB hb 50)
theorem q_e_t_BadNumber {K : PySem.W.Frag} (hb : (bsK K).all id = true) : PySem.W.typeIn K (.ref (A_c_BadNumber K)) = some (.type "type") := dok (nthB hb 51)
theorem q_e_k_BadNumber {K : PySem.W.Frag} (hb : (bsK K).all id = true) : PySem.W.keepIn K (.ref (A_c_BadNumber K)) = true := dok (nthB hb 52)
theorem q_e_n_BadNumber {K : PySem.W.Frag} (hb : (bsK K).all id = true) : PySem.W.findIn K (.ref (A_c_BadNumber K)) "value" = some none := dok (nthB hb 53)
theorem q_e_ga_BadNumber {K : PySem.W.Frag} (hb : (bsK K).all id = true) : PySem.W.findIn K (.ref (A_c_BadNumber K)) "__getattribute__" = some (some (.builtin "BaseException.__getattribute__")) := dok (nthB hb 54)
theorem q_e_gg_BadNumber {K : PySem.W.Frag} (hb : (bsK K).all id = true) : PySem.W.findIn K (.ref (A_c_BadNumber K)) "__getattr__" = some none := dok (nthB hb 55)
theorem q_e_hd_BadNumber {K : PySem.W.Frag} (hb : (bsK K).all id = true) : PySem.W.hasDictIn K (A_c_BadNumber K) = true := dok (nthB hb 56)
theorem q_e_ic_BadNumber {K : PySem.W.Frag} (hb : (bsK K).all id = true) : PySem.W.isClsIn K (A_c_BadNumber K) = true := dok (nthB hb 57)
theorem q_e_s_BadNumber {K : PySem.W.Frag} (hb : (bsK K).all id = true) : PySem.W.mroIn K (A_c_BadNumber K) (.ref (A_c_BadNumber K)) = some true := dok (nthB hb 58)
theorem q_e_sa_BadPoint {K : PySem.W.Frag} (hb : (bsK K).all id = true) : PySem.W.findIn K (.ref (A_c_BadPoint K)) "__setattr__" = some (some (.builtin "object.__setattr__")) := dok (nthB hb 60)
theorem q_e_e_BadPoint {K : PySem.W.Frag} (hb : (bsK K).all id = true) : PySem.W.mroIn K (A_c_BadPoint K) (.type "BaseException") = some true := dok (nthB hb 61)
theorem q_e_t_BadPoint {K : PySem.W.Frag} (hb : (bsK K).all id = true) : PySem.W.typeIn K (.ref (A_c_BadPoint K)) = some (.type "type") := dok (nthB hb 62)
theorem q_e_k_BadPoint {K : PySem.W.Frag} (hb : (bsK K).all id = true) : PySem.W.keepIn K (.ref (A_c_BadPoint K)) = true := dok (nthB hb 63)
theorem q_e_n_BadPoint {K : PySem.W.Frag} (hb : (bsK K).all id = true) : PySem.W.findIn K (.ref (A_c_BadPoint K)) "point" = some none := dok (nthB hb 64)
theorem q_e_ga_BadPoint {K : PySem.W.Frag} (hb : (bsK K).all id = true) : PySem.W.findIn K (.ref (A_c_BadPoint K)) "__getattribute__" = some (some (.builtin "BaseException.__getattribute__")) := dok (nthB hb 65)
theorem q_e_gg_BadPoint {K : PySem.W.Frag} (hb : (bsK K).all id = true) : PySem.W.findIn K (.ref (A_c_BadPoint K)) "__getattr__" = some none := dok (nthB hb 66)
theorem q_e_hd_BadPoint {K : PySem.W.Frag} (hb : (bsK K).all id = true) : PySem.W.hasDictIn K (A_c_BadPoint K) = true := dok (nthB hb 67)
theorem q_e_ic_BadPoint {K : PySem.W.Frag} (hb : (bsK K).all id = true) : PySem.W.isClsIn K (A_c_BadPoint K) = true := dok (nthB hb 68)
theorem q_e_s_BadPoint {K : PySem.W.Frag} (hb : (bsK K).all id = true) : PySem.W.mroIn K (A_c_BadPoint K) (.ref (A_c_BadPoint K)) = some true := dok (nthB hb 69)
theorem q_e_sa_BadCorner {K : PySem.W.Frag} (hb : (bsK K).all id = true) : PySem.W.findIn K (.ref (A_c_BadCorner K)) "__setattr__" = some (some (.builtin "object.__setattr__")) := dok (nthB hb 71)
theorem q_e_e_BadCorner {K : PySem.W.Frag} (hb : (bsK K).all id = true) : PySem.W.mroIn K (A_c_BadCorner K) (.type "BaseException") = some true := dok (nthB hb 72)
theorem q_e_t_BadCorner {K : PySem.W.Frag} (hb : (bsK K).all id = true) : PySem.W.typeIn K (.ref (A_c_BadCorner K)) = some (.type "type") := dok (nthB hb 73)
theorem q_e_k_BadCorner {K : PySem.W.Frag} (hb : (bsK K).all id = true) : PySem.W.keepIn K (.ref (A_c_BadCorner K)) = true := dok (nthB hb 74)
theorem q_e_n_BadCorner {K : PySem.W.Frag} (hb : (bsK K).all id = true) : PySem.W.findIn K (.ref (A_c_BadCorner K)) "corner" = some none := dok (nthB hb 75)
theorem q_e_ga_BadCorner {K : PySem.W.Frag} (hb : (bsK K).all id = true) : PySem.W.findIn K (.ref (A_c_BadCorner K)) "__getattribute__" = some (some (.builtin "BaseException.__getattribute__")) := dok (nthB hb 76)
theorem q_e_gg_BadCorner {K : PySem.W.Frag} (hb : (bsK K).all id = true) : PySem.W.findIn K (.ref (A_c_BadCorner K)) "__getattr__" = some none := dok (nthB hb 77)
theorem q_e_hd_BadCorner {K : PySem.W.Frag} (hb : (bsK K).all id = true) : PySem.W.hasDictIn K (A_c_BadCorner K) = true := dok (nthB hb 78)
theorem q_e_ic_BadCorner {K : PySem.W.Frag} (hb : (bsK K).all id = true) : PySem.W.isClsIn K (A_c_BadCorner K) = true := dok (nthB hb 79)
theorem q_e_s_BadCorner {K : PySem.W.Frag} (hb : (bsK K).all id = true) : PySem.W.mroIn K (A_c_BadCorner K) (.ref (A_c_BadCorner K)) = some true := dok (nthB hb 80)
theorem q_e_sa_Barred {K : PySem.W.Frag} (hb : (bsK K).all id = true) : PySem.W.findIn K (.ref (A_c_Barred K)) "__setattr__" = some (some (.builtin "object.__setattr__")) := dok (nthB hb 82)
theorem q_e_e_Barred {K : PySem.W.Frag} (hb : (bsK K).all id = true) : PySem.W.mroIn K (A_c_Barred K) (.type "BaseException") = some true := dok (nthB hb 83)
theorem q_e_t_Barred {K : PySem.W.Frag} (hb : (bsK K).all id = true) : PySem.W.typeIn K (.ref (A_c_Barred K)) = some (.type "type") := dok (nthB hb 84)
theorem q_e_k_Barred {K : PySem.W.Frag} (hb : (bsK K).all id = true) : PySem.W.keepIn K (.ref (A_c_Barred K)) = true := dok (nthB hb 85)
theorem q_e_n_Barred {K : PySem.W.Frag} (hb : (bsK K).all id = true) : PySem.W.findIn K (.ref (A_c_Barred K)) "direction" = some none := dok (nthB hb 86)
theorem q_e_ga_Barred {K : PySem.W.Frag} (hb : (bsK K).all id = true) : PySem.W.findIn K (.ref (A_c_Barred K)) "__getattribute__" = some (some (.builtin "BaseException.__getattribute__")) := dok (nthB hb 87)
theorem q_e_gg_Barred {K : PySem.W.Frag} (hb : (bsK K).all id = true) : PySem.W.findIn K (.ref (A_c_Barred K)) "__getattr__" = some none := dok (nthB hb 88)
theorem q_e_hd_Barred {K : PySem.W.Frag} (hb : (bsK K).all id = true) : PySem.W.hasDictIn K (A_c_Barred K) = true := dok (nthB hb 89)
theorem q_e_ic_Barred {K : PySem.W.Frag} (hb : (bsK K).all id = true) : PySem.W.isClsIn K (A_c_Barred K) = true := dok (nthB hb 90)
theorem q_e_s_Barred {K : PySem.W.Frag} (hb : (bsK K).all id = true) : PySem.W.mroIn K (A_c_Barred K) (.ref (A_c_Barred K)) = some true := dok (nthB hb 91)
theorem q_e_sa_NoCorner {K : PySem.W.Frag} (hb : (bsK K).all id = true) : PySem.W.findIn K (.ref (A_c_NoCorner K)) "__setattr__" = some (some (.builtin "object.__setattr__")) := dok (nthB hb 93)
theorem q_e_e_NoCorner {K : PySem.W.Frag} (hb : (bsK K).all id = true) : PySem.W.mroIn K (A_c_NoCorner K) (.type "BaseException") = some true := dok (nthB hb 94)
theorem q_e_t_NoCorner {K : PySem.W.Frag} (hb : (bsK K).all id = true) : PySem.W.typeIn K (.ref (A_c_NoCorner K)) = some (.type "type") := dok (nthB hb 95)
theorem q_e_k_NoCorner {K : PySem.W.Frag} (hb : (bsK K).all id = true) : PySem.W.keepIn K (.ref (A_c_NoCorner K)) = true := dok (nthB hb 96)
theorem q_e_n_NoCorner {K : PySem.W.Frag} (hb : (bsK K).all id = true) : PySem.W.findIn K (.ref (A_c_NoCorner K)) "corner" = some none := dok (nthB hb 97)
theorem q_e_ga_NoCorner {K : PySem.W.Frag} (hb : (bsK K).all id = true) : PySem.W.findIn K (.ref (A_c_NoCorner K)) "__getattribute__" = some (some (.builtin "BaseException.__getattribute__")) := dok (nthB hb 98)
theorem q_e_gg_NoCorner {K : PySem.W.Frag} (hb : (bsK K).all id = true) : PySem.W.findIn K (.ref (A_c_NoCorner K)) "__getattr__" = some none := dok (nthB hb 99)
theorem q_e_hd_NoCorner {K : PySem.W.Frag} (hb : (bsK K).all id = true) : PySem.W.hasDictIn K (A_c_NoCorner K) = true := dok (nthB hb 100)
theorem q_e_ic_NoCorner {K : PySem.W.Frag} (hb : (bsK K).all id = true) : PySem.W.isClsIn K (A_c_NoCorner K) = true := dok (nthB hb 101)
theorem q_e_s_NoCorner {K : PySem.W.Frag} (hb : (bsK K).all id = true) : PySem.W.mroIn K (A_c_NoCorner K) (.ref (A_c_NoCorner K)) = some true := dok (nthB hb 102)
theorem q_e_sa_BadTile {K : PySem.W.Frag} (hb : (bsK K).all id = true) : PySem.W.findIn K (.ref (A_c_BadTile K)) "__setattr__" = some (some (.builtin "object.__setattr__")) := dok (nthB hb 104)
theorem q_e_e_BadTile {K : PySem.W.Frag} (hb : (bsK K).all id = true) : PySem.W.mroIn K (A_c_BadTile K) (.type "BaseException") = some true := dok (nthB hb 105)
theorem q_e_t_BadTile {K : PySem.W.Frag} (hb : (bsK K).all id = true) : PySem.W.typeIn K (.ref (A_c_BadTile K)) = some (.type "type") := dok (nthB hb 106)
theorem q_e_k_BadTile {K : PySem.W.Frag} (hb : (bsK K).all id = true) : PySem.W.keepIn K (.ref (A_c_BadTile K)) = true := dok (nthB hb 107)
theorem q_e_n_BadTile {K : PySem.W.Frag} (hb : (bsK K).all id = true) : PySem.W.findIn K (.ref (A_c_BadTile K)) "tile" = some none := dok (nthB hb 108)
theorem q_e_ga_BadTile {K : PySem.W.Frag} (hb : (bsK K).all id = true) : PySem.W.findIn K (.ref (A_c_BadTile K)) "__getattribute__" = some (some (.builtin "BaseException.__getattribute__")) := dok (nthB hb 109)
theorem q_e_gg_BadTile {K : PySem.W.Frag} (hb : (bsK K).all id = true) : PySem.W.findIn K (.ref (A_c_BadTile K)) "__getattr__" = some none := dok (nthB hb 110)
theorem q_e_hd_BadTile {K : PySem.W.Frag} (hb : (bsK K).all id = true) : PySem.W.hasDictIn K (A_c_BadTile K) = true := dok (nthB hb 111)
theorem q_e_ic_BadTile {K : PySem.W.Frag} (hb : (bsK K).all id = true) : PySem.W.isClsIn K (A_c_BadTile K) = true := dok (nthB hb 112)
theorem q_e_s_BadTile {K : PySem.W.Frag} (hb : (bsK K).all id = true) : PySem.W.mroIn K (A_c_BadTile K) (.ref (A_c_BadTile K)) = some true := dok (nthB hb 113)
theorem q_e_sa_NoTile {K : PySem.W.Frag} (hb : (bsK K).all id = true) : PySem.W.findIn K (.ref (A_c_NoTile K)) "__setattr__" = some (some (.builtin "object.__setattr__")) := dok (nthB hb 115)
theorem q_e_e_NoTile {K : PySem.W.Frag} (hb : (bsK K).all id = true) : PySem.W.mroIn K (A_c_NoTile K) (.type "BaseException") = some true := dok (nthB hb 116)
theorem q_e_t_NoTile {K : PySem.W.Frag} (hb : (bsK K).all id = true) : PySem.W.typeIn K (.ref (A_c_NoTile K)) = some (.type "type") := dok (nthB hb 117)
theorem q_e_k_NoTile {K : PySem.W.Frag} (hb : (bsK K).all id = true) : PySem.W.keepIn K (.ref (A_c_NoTile K)) = true := dok (nthB hb 118)
theorem q_e_n_NoTile {K : PySem.W.Frag} (hb : (bsK K).all id = true) : PySem.W.findIn K (.ref (A_c_NoTile K)) "tile" = some none := dok (nthB hb 119)
theorem q_e_ga_NoTile {K : PySem.W.Frag} (hb : (bsK K).all id = true) : PySem.W.findIn K (.ref (A_c_NoTile K)) "__getattribute__" = some (some (.builtin "BaseException.__getattribute__")) := dok (nthB hb 120)
theorem q_e_gg_NoTile {K : PySem.W.Frag} (hb : (bsK K).all id = true) : PySem.W.findIn K (.ref (A_c_NoTile K)) "__getattr__" = some none := dok (nthB hb 121)
theorem q_e_hd_NoTile {K : PySem.W.Frag} (hb : (bsK K).all id = true) : PySem.W.hasDictIn K (A_c_NoTile K) = true := dok (nthB hb 122)
theorem q_e_ic_NoTile {K : PySem.W.Frag} (hb : (bsK K).all id = true) : PySem.W.isClsIn K (A_c_NoTile K) = true := dok (nthB hb 123)
theorem q_e_s_NoTile {K : PySem.W.Frag} (hb : (bsK K).all id = true) : PySem.W.mroIn K (A_c_NoTile K) (.ref (A_c_NoTile K)) = some true := dok (nthB hb 124)
theorem q_e_sa_BadSide {K : PySem.W.Frag} (hb : (bsK K).all id = true) : PySem.W.findIn K (.ref (A_c_BadSide K)) "__setattr__" = some (some (.builtin "object.__setattr__")) := dok (nthB hb 126)
theorem q_e_e_BadSide {K : PySem.W.Frag} (hb : (bsK K).all id = true) : PySem.W.mroIn K (A_c_BadSide K) (.type "BaseException") = some true := dok (nthB hb 127)
theorem q_e_t_BadSide {K : PySem.W.Frag} (hb : (bsK K).all id = true) : PySem.W.typeIn K (.ref (A_c_BadSide K)) = some (.type "type") := dok (nthB hb 128)
theorem q_e_k_BadSide {K : PySem.W.Frag} (hb : (bsK K).all id = true) : PySem.W.keepIn K (.ref (A_c_BadSide K)) = true := dok (nthB hb 129)
theorem q_e_n_BadSide {K : PySem.W.Frag} (hb : (bsK K).all id = true) : PySem.W.findIn K (.ref (A_c_BadSide K)) "side" = some none := dok (nthB hb 130)
theorem q_e_ga_BadSide {K : PySem.W.Frag} (hb : (bsK K).all id = true) : PySem.W.findIn K (.ref (A_c_BadSide K)) "__getattribute__" = some (some (.builtin "BaseException.__getattribute__")) := dok (nthB hb 131)
theorem q_e_gg_BadSide {K : PySem.W.Frag} (hb : (bsK K).all id = true) : PySem.W.findIn K (.ref (A_c_BadSide K)) "__getattr__" = some none := dok (nthB hb 132)
theorem q_e_hd_BadSide {K : PySem.W.Frag} (hb : (bsK K).all id = true) : PySem.W.hasDictIn K (A_c_BadSide K) = true := dok (nthB hb 133)
theorem q_e_ic_BadSide {K : PySem.W.Frag} (hb : (bsK K).all id = true) : PySem.W.isClsIn K (A_c_BadSide K) = true := dok (nthB hb 134)
theorem q_e_s_BadSide {K : PySem.W.Frag} (hb : (bsK K).all id = true) : PySem.W.mroIn K (A_c_BadSide K) (.ref (A_c_BadSide K)) = some true := dok (nthB hb 135)
theorem q_a_is_integral {K : PySem.W.Frag} (hb : (bsK K).all id = true) : PySem.W.nsIn K mainGlobals "is_integral" = some (some (.ref (A_f_is_integral K))) := isR_ok (nthB hb 136)
theorem q_d_is_integral {K : PySem.W.Frag} (hb : (bsK K).all id = true) : PySem.W.codeIn K (fdK K (A_f_is_integral K)).code "is_integral" = true := dok (nthB hb 137)
theorem q_k_is_integral {K : PySem.W.Frag} (hb : (bsK K).all id = true) : PySem.W.keepIn K (.ref (A_f_is_integral K)) = true := dok (nthB hb 138)
theorem q_a_BadPoint_init {K : PySem.W.Frag} (hb : (bsK K).all id = true) : PySem.W.findIn K (.ref (A_c_BadPoint K)) "__init__" = some (some (.ref (A_f_BadPoint_init K))) := isR_ok (nthB hb 139)
theorem q_t_BadPoint_init {K : PySem.W.Frag} (hb : (bsK K).all id = true) : PySem.W.typeIn K (.ref (A_f_BadPoint_init K)) = some (.type "function") := dok (nthB hb 140)
theorem q_d_BadPoint_init {K : PySem.W.Frag} (hb : (bsK K).all id = true) : PySem.W.codeIn K (fdK K (A_f_BadPoint_init K)).code "BadPoint.__init__" = true := dok (nthB hb 141)
theorem q_k_BadPoint_init {K : PySem.W.Frag} (hb : (bsK K).all id = true) : PySem.W.keepIn K (.ref (A_f_BadPoint_init K)) = true := dok (nthB hb 142)
theorem q_a_BadCorner_init {K : PySem.W.Frag} (hb : (bsK K).all id = true) : PySem.W.findIn K (.ref (A_c_BadCorner K)) "__init__" = some (some (.ref (A_f_BadCorner_init K))) := isR_ok (nthB hb 143)
theorem q_t_BadCorner_init {K : PySem.W.Frag} (hb : (bsK K).all id = true) : PySem.W.typeIn K (.ref (A_f_BadCorner_init K)) = some (.type "function") := dok (nthB hb 144)
theorem q_d_BadCorner_init {K : PySem.W.Frag} (hb : (bsK K).all id = true) : PySem.W.codeIn K (fdK K (A_f_BadCorner_init K)).code "BadCorner.__init__" = true := dok (nthB hb 145)
theorem q_k_BadCorner_init {K : PySem.W.Frag} (hb : (bsK K).all id = true) : PySem.W.keepIn K (.ref (A_f_BadCorner_init K)) = true := dok (nthB hb 146)
theorem q_a_Barred_init {K : PySem.W.Frag} (hb : (bsK K).all id = true) : PySem.W.findIn K (.ref (A_c_Barred K)) "__init__" = some (some (.ref (A_f_Barred_init K))) := isR_ok (nthB hb 147)
theorem q_t_Barred_init {K : PySem.W.Frag} (hb : (bsK K).all id = true) : PySem.W.typeIn K (.ref (A_f_Barred_init K)) = some (.type "function") := dok (nthB hb 148)
theorem q_d_Barred_init {K : PySem.W.Frag} (hb : (bsK K).all id = true) : PySem.W.codeIn K (fdK K (A_f_Barred_init K)).code "Barred.__init__" = true := dok (nthB hb 149)
theorem q_k_Barred_init {K : PySem.W.Frag} (hb : (bsK K).all id = true) : PySem.W.keepIn K (.ref (A_f_Barred_init K)) = true := dok (nthB hb 150)
theorem q_a_NoCorner_init {K : PySem.W.Frag} (hb : (bsK K).all id = true) : PySem.W.findIn K (.ref (A_c_NoCorner K)) "__init__" = some (some (.ref (A_f_NoCorner_init K))) := isR_ok (nthB hb 151)
theorem q_t_NoCorner_init {K : PySem.W.Frag} (hb : (bsK K).all id = true) : PySem.W.typeIn K (.ref (A_f_NoCorner_init K)) = some (.type "function") := dok (nthB hb 152)
theorem q_d_NoCorner_init {K : PySem.W.Frag} (hb : (bsK K).all id = true) : PySem.W.codeIn K (fdK K (A_f_NoCorner_init K)).code "NoCorner.__init__" = true := dok (nthB hb 153)
theorem q_k_NoCorner_init {K : PySem.W.Frag} (hb : (bsK K).all id = true) : PySem.W.keepIn K (.ref (A_f_NoCorner_init K)) = true := dok (nthB hb 154)
theorem q_a_BadTile_init {K : PySem.W.Frag} (hb : (bsK K).all id = true) : PySem.W.findIn K (.ref (A_c_BadTile K)) "__init__" = some (some (.ref (A_f_BadTile_init K))) := isR_ok (nthB hb 155)
theorem q_t_BadTile_init {K : PySem.W.Frag} (hb : (bsK K).all id = true) : PySem.W.typeIn K (.ref (A_f_BadTile_init K)) = some (.type "function") := dok (nthB hb 156)
theorem q_d_BadTile_init {K : PySem.W.Frag} (hb : (bsK K).all id = true) : PySem.W.codeIn K (fdK K (A_f_BadTile_init K)).code "BadTile.__init__" = true := dok (nthB hb 157)
theorem q_k_BadTile_init {K : PySem.W.Frag} (hb : (bsK K).all id = true) : PySem.W.keepIn K (.ref (A_f_BadTile_init K)) = true := dok (nthB hb 158)
theorem q_a_NoTile_init {K : PySem.W.Frag} (hb : (bsK K).all id = true) : PySem.W.findIn K (.ref (A_c_NoTile K)) "__init__" = some (some (.ref (A_f_NoTile_init K))) := isR_ok (nthB hb 159)
theorem q_t_NoTile_init {K : PySem.W.Frag} (hb : (bsK K).all id = true) : PySem.W.typeIn K (.ref (A_f_NoTile_init K)) = some (.type "function") := dok (nthB hb 160)
theorem q_d_NoTile_init {K : PySem.W.Frag} (hb : (bsK K).all id = true) : PySem.W.codeIn K (fdK K (A_f_NoTile_init K)).code "NoTile.__init__" = true := dok (nthB hb 161)
theorem q_k_NoTile_init {K : PySem.W.Frag} (hb : (bsK K).all id = true) : PySem.W.keepIn K (.ref (A_f_NoTile_init K)) = true := dok (nthB hb 162)
theorem q_a_BadSide_init {K : PySem.W.Frag} (hb : (bsK K).all id = true) : PySem.W.findIn K (.ref (A_c_BadSide K)) "__init__" = some (some (.ref (A_f_BadSide_init K))) := isR_ok (nthB hb 163)
theorem q_t_BadSide_init {K : PySem.W.Frag} (hb : (bsK K).all id = true) : PySem.W.typeIn K (.ref (A_f_BadSide_init K)) = some (.type "function") := dok (nthB hb 164)
theorem q_d_BadSide_init {K : PySem.W.Frag} (hb : (bsK K).all id = true) : PySem.W.codeIn K (fdK K (A_f_BadSide_init K)).code "BadSide.__init__" = true := dok (nthB hb 165)
theorem q_k_BadSide_init {K : PySem.W.Frag} (hb : (bsK K).all id = true) : PySem.W.keepIn K (.ref (A_f_BadSide_init K)) = true := dok (nthB hb 166)
theorem q_a_BadNumber_init {K : PySem.W.Frag} (hb : (bsK K).all id = true) : PySem.W.findIn K (.ref (A_c_BadNumber K)) "__init__" = some (some (.ref (A_f_BadNumber_init K))) := isR_ok (nthB hb 167)
theorem q_t_BadNumber_init {K : PySem.W.Frag} (hb : (bsK K).all id = true) : PySem.W.typeIn K (.ref (A_f_BadNumber_init K)) = some (.type "function") := dok (nthB hb 168)
theorem q_d_BadNumber_init {K : PySem.W.Frag} (hb : (bsK K).all id = true) : PySem.W.codeIn K (fdK K (A_f_BadNumber_init K)).code "BadNumber.__init__" = true := dok (nthB hb 169)
theorem q_k_BadNumber_init {K : PySem.W.Frag} (hb : (bsK K).all id = true) : PySem.W.keepIn K (.ref (A_f_BadNumber_init K)) = true := dok (nthB hb 170)
theorem q_a_Root_init {K : PySem.W.Frag} (hb : (bsK K).all id = true) : PySem.W.findIn K (.ref (A_c_Root K)) "__init__" = some (some (.ref (A_f_Root_init K))) := isR_ok (nthB hb 171)
theorem q_i_Root_init {K : PySem.W.Frag} (hb : (bsK K).all id = true) : PySem.W.isFn K (.ref (A_f_Root_init K)) = true := dok (nthB hb 172)
theorem q_mk_Root_init {K : PySem.W.Frag} (hb : (bsK K).all id = true) : PySem.W.makesIn K (A_c_Root K) = true := dok (nthB hb 173)
theorem q_kc_Root_init {K : PySem.W.Frag} (hb : (bsK K).all id = true) : PySem.W.keepIn K (.ref (A_c_Root K)) = true := dok (nthB hb 174)
theorem q_d_Root_init {K : PySem.W.Frag} (hb : (bsK K).all id = true) : PySem.W.codeIn K (fdK K (A_f_Root_init K)).code "Root.__init__" = true := dok (nthB hb 175)
theorem q_k_Root_init {K : PySem.W.Frag} (hb : (bsK K).all id = true) : PySem.W.keepIn K (.ref (A_f_Root_init K)) = true := dok (nthB hb 176)
theorem q_a_Root_eq {K : PySem.W.Frag} (hb : (bsK K).all id = true) : PySem.W.findIn K (.ref (A_c_Root K)) "__eq__" = some (some (.ref (A_f_Root_eq K))) := isR_ok (nthB hb 177)
theorem q_i_Root_eq {K : PySem.W.Frag} (hb : (bsK K).all id = true) : PySem.W.isFn K (.ref (A_f_Root_eq K)) = true := dok (nthB hb 178)
theorem q_d_Root_eq {K : PySem.W.Frag} (hb : (bsK K).all id = true) : PySem.W.codeIn K (fdK K (A_f_Root_eq K)).code "Root.__eq__" = true := dok (nthB hb 179)
theorem q_k_Root_eq {K : PySem.W.Frag} (hb : (bsK K).all id = true) : PySem.W.keepIn K (.ref (A_f_Root_eq K)) = true := dok (nthB hb 180)
theorem q_a_Root_neg {K : PySem.W.Frag} (hb : (bsK K).all id = true) : PySem.W.findIn K (.ref (A_c_Root K)) "__neg__" = some (some (.ref (A_f_Root_neg K))) := isR_ok (nthB hb 181)
theorem q_i_Root_neg {K : PySem.W.Frag} (hb : (bsK K).all id = true) : PySem.W.isFn K (.ref (A_f_Root_neg K)) = true := dok (nthB hb 182)
theorem q_d_Root_neg {K : PySem.W.Frag} (hb : (bsK K).all id = true) : PySem.W.codeIn K (fdK K (A_f_Root_neg K)).code "Root.__neg__" = true := dok (nthB hb 183)
theorem q_k_Root_neg {K : PySem.W.Frag} (hb : (bsK K).all id = true) : PySem.W.keepIn K (.ref (A_f_Root_neg K)) = true := dok (nthB hb 184)
theorem q_a_is_number {K : PySem.W.Frag} (hb : (bsK K).all id = true) : PySem.W.nsIn K mainGlobals "is_number" = some (some (.ref (A_f_is_number K))) := isR_ok (nthB hb 185)
theorem q_d_is_number {K : PySem.W.Frag} (hb : (bsK K).all id = true) : PySem.W.codeIn K (fdK K (A_f_is_number K)).code "is_number" = true := dok (nthB hb 186)
theorem q_k_is_number {K : PySem.W.Frag} (hb : (bsK K).all id = true) : PySem.W.keepIn K (.ref (A_f_is_number K)) = true := dok (nthB hb 187)
theorem q_a_as_root {K : PySem.W.Frag} (hb : (bsK K).all id = true) : PySem.W.nsIn K mainGlobals "as_root" = some (some (.ref (A_f_as_root K))) := isR_ok (nthB hb 188)
theorem q_d_as_root {K : PySem.W.Frag} (hb : (bsK K).all id = true) : PySem.W.codeIn K (fdK K (A_f_as_root K)).code "as_root" = true := dok (nthB hb 189)
theorem q_k_as_root {K : PySem.W.Frag} (hb : (bsK K).all id = true) : PySem.W.keepIn K (.ref (A_f_as_root K)) = true := dok (nthB hb 190)
theorem q_a_surd_sign {K : PySem.W.Frag} (hb : (bsK K).all id = true) : PySem.W.nsIn K mainGlobals "surd_sign" = some (some (.ref (A_f_surd_sign K))) := isR_ok (nthB hb 191)
theorem q_d_surd_sign {K : PySem.W.Frag} (hb : (bsK K).all id = true) : PySem.W.codeIn K (fdK K (A_f_surd_sign K)).code "surd_sign" = true := dok (nthB hb 192)
theorem q_k_surd_sign {K : PySem.W.Frag} (hb : (bsK K).all id = true) : PySem.W.keepIn K (.ref (A_f_surd_sign K)) = true := dok (nthB hb 193)
theorem q_a_Root_add {K : PySem.W.Frag} (hb : (bsK K).all id = true) : PySem.W.findIn K (.ref (A_c_Root K)) "__add__" = some (some (.ref (A_f_Root_add K))) := isR_ok (nthB hb 194)
theorem q_i_Root_add {K : PySem.W.Frag} (hb : (bsK K).all id = true) : PySem.W.isFn K (.ref (A_f_Root_add K)) = true := dok (nthB hb 195)
theorem q_d_Root_add {K : PySem.W.Frag} (hb : (bsK K).all id = true) : PySem.W.codeIn K (fdK K (A_f_Root_add K)).code "Root.__add__" = true := dok (nthB hb 196)
theorem q_k_Root_add {K : PySem.W.Frag} (hb : (bsK K).all id = true) : PySem.W.keepIn K (.ref (A_f_Root_add K)) = true := dok (nthB hb 197)
theorem q_a_Root_sub {K : PySem.W.Frag} (hb : (bsK K).all id = true) : PySem.W.findIn K (.ref (A_c_Root K)) "__sub__" = some (some (.ref (A_f_Root_sub K))) := isR_ok (nthB hb 198)
theorem q_i_Root_sub {K : PySem.W.Frag} (hb : (bsK K).all id = true) : PySem.W.isFn K (.ref (A_f_Root_sub K)) = true := dok (nthB hb 199)
theorem q_d_Root_sub {K : PySem.W.Frag} (hb : (bsK K).all id = true) : PySem.W.codeIn K (fdK K (A_f_Root_sub K)).code "Root.__sub__" = true := dok (nthB hb 200)
theorem q_k_Root_sub {K : PySem.W.Frag} (hb : (bsK K).all id = true) : PySem.W.keepIn K (.ref (A_f_Root_sub K)) = true := dok (nthB hb 201)
theorem q_a_Root_mul {K : PySem.W.Frag} (hb : (bsK K).all id = true) : PySem.W.findIn K (.ref (A_c_Root K)) "__mul__" = some (some (.ref (A_f_Root_mul K))) := isR_ok (nthB hb 202)
theorem q_i_Root_mul {K : PySem.W.Frag} (hb : (bsK K).all id = true) : PySem.W.isFn K (.ref (A_f_Root_mul K)) = true := dok (nthB hb 203)
theorem q_d_Root_mul {K : PySem.W.Frag} (hb : (bsK K).all id = true) : PySem.W.codeIn K (fdK K (A_f_Root_mul K)).code "Root.__mul__" = true := dok (nthB hb 204)
theorem q_k_Root_mul {K : PySem.W.Frag} (hb : (bsK K).all id = true) : PySem.W.keepIn K (.ref (A_f_Root_mul K)) = true := dok (nthB hb 205)
theorem q_a_Root_radd {K : PySem.W.Frag} (hb : (bsK K).all id = true) : PySem.W.findIn K (.ref (A_c_Root K)) "__radd__" = some (some (.ref (A_f_Root_radd K))) := isR_ok (nthB hb 206)
theorem q_i_Root_radd {K : PySem.W.Frag} (hb : (bsK K).all id = true) : PySem.W.isFn K (.ref (A_f_Root_radd K)) = true := dok (nthB hb 207)
theorem q_d_Root_radd {K : PySem.W.Frag} (hb : (bsK K).all id = true) : PySem.W.codeIn K (fdK K (A_f_Root_radd K)).code "Root.__radd__" = true := dok (nthB hb 208)
theorem q_k_Root_radd {K : PySem.W.Frag} (hb : (bsK K).all id = true) : PySem.W.keepIn K (.ref (A_f_Root_radd K)) = true := dok (nthB hb 209)
theorem q_a_Root_rmul {K : PySem.W.Frag} (hb : (bsK K).all id = true) : PySem.W.findIn K (.ref (A_c_Root K)) "__rmul__" = some (some (.ref (A_f_Root_rmul K))) := isR_ok (nthB hb 210)
theorem q_i_Root_rmul {K : PySem.W.Frag} (hb : (bsK K).all id = true) : PySem.W.isFn K (.ref (A_f_Root_rmul K)) = true := dok (nthB hb 211)
theorem q_d_Root_rmul {K : PySem.W.Frag} (hb : (bsK K).all id = true) : PySem.W.codeIn K (fdK K (A_f_Root_rmul K)).code "Root.__rmul__" = true := dok (nthB hb 212)
theorem q_k_Root_rmul {K : PySem.W.Frag} (hb : (bsK K).all id = true) : PySem.W.keepIn K (.ref (A_f_Root_rmul K)) = true := dok (nthB hb 213)
theorem q_a_Root_rsub {K : PySem.W.Frag} (hb : (bsK K).all id = true) : PySem.W.findIn K (.ref (A_c_Root K)) "__rsub__" = some (some (.ref (A_f_Root_rsub K))) := isR_ok (nthB hb 214)
theorem q_i_Root_rsub {K : PySem.W.Frag} (hb : (bsK K).all id = true) : PySem.W.isFn K (.ref (A_f_Root_rsub K)) = true := dok (nthB hb 215)
theorem q_d_Root_rsub {K : PySem.W.Frag} (hb : (bsK K).all id = true) : PySem.W.codeIn K (fdK K (A_f_Root_rsub K)).code "Root.__rsub__" = true := dok (nthB hb 216)
theorem q_k_Root_rsub {K : PySem.W.Frag} (hb : (bsK K).all id = true) : PySem.W.keepIn K (.ref (A_f_Root_rsub K)) = true := dok (nthB hb 217)
theorem q_a_Root_less {K : PySem.W.Frag} (hb : (bsK K).all id = true) : PySem.W.findIn K (.ref (A_c_Root K)) "less" = some (some (.ref (A_f_Root_less K))) := isR_ok (nthB hb 218)
theorem q_i_Root_less {K : PySem.W.Frag} (hb : (bsK K).all id = true) : PySem.W.isFn K (.ref (A_f_Root_less K)) = true := dok (nthB hb 219)
theorem q_d_Root_less {K : PySem.W.Frag} (hb : (bsK K).all id = true) : PySem.W.codeIn K (fdK K (A_f_Root_less K)).code "Root.less" = true := dok (nthB hb 220)
theorem q_k_Root_less {K : PySem.W.Frag} (hb : (bsK K).all id = true) : PySem.W.keepIn K (.ref (A_f_Root_less K)) = true := dok (nthB hb 221)
theorem q_a__law_start {K : PySem.W.Frag} (hb : (bsK K).all id = true) : PySem.W.nsIn K mainGlobals "_law_start" = some (some (.ref (A_f__law_start K))) := isR_ok (nthB hb 222)
theorem q_d__law_start {K : PySem.W.Frag} (hb : (bsK K).all id = true) : PySem.W.codeIn K (fdK K (A_f__law_start K)).code "_law_start" = true := dok (nthB hb 223)
theorem q_k__law_start {K : PySem.W.Frag} (hb : (bsK K).all id = true) : PySem.W.keepIn K (.ref (A_f__law_start K)) = true := dok (nthB hb 224)
theorem q_a__law_mixed {K : PySem.W.Frag} (hb : (bsK K).all id = true) : PySem.W.nsIn K mainGlobals "_law_mixed" = some (some (.ref (A_f__law_mixed K))) := isR_ok (nthB hb 225)
theorem q_d__law_mixed {K : PySem.W.Frag} (hb : (bsK K).all id = true) : PySem.W.codeIn K (fdK K (A_f__law_mixed K)).code "_law_mixed" = true := dok (nthB hb 226)
theorem q_k__law_mixed {K : PySem.W.Frag} (hb : (bsK K).all id = true) : PySem.W.keepIn K (.ref (A_f__law_mixed K)) = true := dok (nthB hb 227)
theorem q_a__law_draw {K : PySem.W.Frag} (hb : (bsK K).all id = true) : PySem.W.nsIn K mainGlobals "_law_draw" = some (some (.ref (A_f__law_draw K))) := isR_ok (nthB hb 228)
theorem q_d__law_draw {K : PySem.W.Frag} (hb : (bsK K).all id = true) : PySem.W.codeIn K (fdK K (A_f__law_draw K)).code "_law_draw" = true := dok (nthB hb 229)
theorem q_k__law_draw {K : PySem.W.Frag} (hb : (bsK K).all id = true) : PySem.W.keepIn K (.ref (A_f__law_draw K)) = true := dok (nthB hb 230)
theorem q_a__law_between {K : PySem.W.Frag} (hb : (bsK K).all id = true) : PySem.W.nsIn K mainGlobals "_law_between" = some (some (.ref (A_f__law_between K))) := isR_ok (nthB hb 231)
theorem q_d__law_between {K : PySem.W.Frag} (hb : (bsK K).all id = true) : PySem.W.codeIn K (fdK K (A_f__law_between K)).code "_law_between" = true := dok (nthB hb 232)
theorem q_k__law_between {K : PySem.W.Frag} (hb : (bsK K).all id = true) : PySem.W.keepIn K (.ref (A_f__law_between K)) = true := dok (nthB hb 233)
theorem q_a__law_plus {K : PySem.W.Frag} (hb : (bsK K).all id = true) : PySem.W.nsIn K mainGlobals "_law_plus" = some (some (.ref (A_f__law_plus K))) := isR_ok (nthB hb 234)
theorem q_d__law_plus {K : PySem.W.Frag} (hb : (bsK K).all id = true) : PySem.W.codeIn K (fdK K (A_f__law_plus K)).code "_law_plus" = true := dok (nthB hb 235)
theorem q_k__law_plus {K : PySem.W.Frag} (hb : (bsK K).all id = true) : PySem.W.keepIn K (.ref (A_f__law_plus K)) = true := dok (nthB hb 236)
theorem q_a__law_minus {K : PySem.W.Frag} (hb : (bsK K).all id = true) : PySem.W.nsIn K mainGlobals "_law_minus" = some (some (.ref (A_f__law_minus K))) := isR_ok (nthB hb 237)
theorem q_d__law_minus {K : PySem.W.Frag} (hb : (bsK K).all id = true) : PySem.W.codeIn K (fdK K (A_f__law_minus K)).code "_law_minus" = true := dok (nthB hb 238)
theorem q_k__law_minus {K : PySem.W.Frag} (hb : (bsK K).all id = true) : PySem.W.keepIn K (.ref (A_f__law_minus K)) = true := dok (nthB hb 239)
theorem q_a__law_sign {K : PySem.W.Frag} (hb : (bsK K).all id = true) : PySem.W.nsIn K mainGlobals "_law_sign" = some (some (.ref (A_f__law_sign K))) := isR_ok (nthB hb 240)
theorem q_d__law_sign {K : PySem.W.Frag} (hb : (bsK K).all id = true) : PySem.W.codeIn K (fdK K (A_f__law_sign K)).code "_law_sign" = true := dok (nthB hb 241)
theorem q_k__law_sign {K : PySem.W.Frag} (hb : (bsK K).all id = true) : PySem.W.keepIn K (.ref (A_f__law_sign K)) = true := dok (nthB hb 242)
theorem q_a_is_corner {K : PySem.W.Frag} (hb : (bsK K).all id = true) : PySem.W.nsIn K mainGlobals "is_corner" = some (some (.ref (A_f_is_corner K))) := isR_ok (nthB hb 243)
theorem q_d_is_corner {K : PySem.W.Frag} (hb : (bsK K).all id = true) : PySem.W.codeIn K (fdK K (A_f_is_corner K)).code "is_corner" = true := dok (nthB hb 244)
theorem q_k_is_corner {K : PySem.W.Frag} (hb : (bsK K).all id = true) : PySem.W.keepIn K (.ref (A_f_is_corner K)) = true := dok (nthB hb 245)
theorem q_a_check_corner {K : PySem.W.Frag} (hb : (bsK K).all id = true) : PySem.W.nsIn K mainGlobals "check_corner" = some (some (.ref (A_f_check_corner K))) := isR_ok (nthB hb 246)
theorem q_d_check_corner {K : PySem.W.Frag} (hb : (bsK K).all id = true) : PySem.W.codeIn K (fdK K (A_f_check_corner K)).code "check_corner" = true := dok (nthB hb 247)
theorem q_k_check_corner {K : PySem.W.Frag} (hb : (bsK K).all id = true) : PySem.W.keepIn K (.ref (A_f_check_corner K)) = true := dok (nthB hb 248)
theorem q_a_step {K : PySem.W.Frag} (hb : (bsK K).all id = true) : PySem.W.nsIn K mainGlobals "step" = some (some (.ref (A_f_step K))) := isR_ok (nthB hb 249)
theorem q_d_step {K : PySem.W.Frag} (hb : (bsK K).all id = true) : PySem.W.codeIn K (fdK K (A_f_step K)).code "step" = true := dok (nthB hb 250)
theorem q_k_step {K : PySem.W.Frag} (hb : (bsK K).all id = true) : PySem.W.keepIn K (.ref (A_f_step K)) = true := dok (nthB hb 251)
theorem q_a__law_star {K : PySem.W.Frag} (hb : (bsK K).all id = true) : PySem.W.nsIn K mainGlobals "_law_star" = some (some (.ref (A_f__law_star K))) := isR_ok (nthB hb 252)
theorem q_d__law_star {K : PySem.W.Frag} (hb : (bsK K).all id = true) : PySem.W.codeIn K (fdK K (A_f__law_star K)).code "_law_star" = true := dok (nthB hb 253)
theorem q_k__law_star {K : PySem.W.Frag} (hb : (bsK K).all id = true) : PySem.W.keepIn K (.ref (A_f__law_star K)) = true := dok (nthB hb 254)
theorem q_a__law_corner {K : PySem.W.Frag} (hb : (bsK K).all id = true) : PySem.W.nsIn K mainGlobals "_law_corner" = some (some (.ref (A_f__law_corner K))) := isR_ok (nthB hb 255)
theorem q_d__law_corner {K : PySem.W.Frag} (hb : (bsK K).all id = true) : PySem.W.codeIn K (fdK K (A_f__law_corner K)).code "_law_corner" = true := dok (nthB hb 256)
theorem q_k__law_corner {K : PySem.W.Frag} (hb : (bsK K).all id = true) : PySem.W.keepIn K (.ref (A_f__law_corner K)) = true := dok (nthB hb 257)
theorem q_a__law_is_corner {K : PySem.W.Frag} (hb : (bsK K).all id = true) : PySem.W.nsIn K mainGlobals "_law_is_corner" = some (some (.ref (A_f__law_is_corner K))) := isR_ok (nthB hb 258)
theorem q_d__law_is_corner {K : PySem.W.Frag} (hb : (bsK K).all id = true) : PySem.W.codeIn K (fdK K (A_f__law_is_corner K)).code "_law_is_corner" = true := dok (nthB hb 259)
theorem q_k__law_is_corner {K : PySem.W.Frag} (hb : (bsK K).all id = true) : PySem.W.keepIn K (.ref (A_f__law_is_corner K)) = true := dok (nthB hb 260)
theorem q_a_is_point {K : PySem.W.Frag} (hb : (bsK K).all id = true) : PySem.W.nsIn K mainGlobals "is_point" = some (some (.ref (A_f_is_point K))) := isR_ok (nthB hb 261)
theorem q_d_is_point {K : PySem.W.Frag} (hb : (bsK K).all id = true) : PySem.W.codeIn K (fdK K (A_f_is_point K)).code "is_point" = true := dok (nthB hb 262)
theorem q_k_is_point {K : PySem.W.Frag} (hb : (bsK K).all id = true) : PySem.W.keepIn K (.ref (A_f_is_point K)) = true := dok (nthB hb 263)
theorem q_a_as_roots {K : PySem.W.Frag} (hb : (bsK K).all id = true) : PySem.W.nsIn K mainGlobals "as_roots" = some (some (.ref (A_f_as_roots K))) := isR_ok (nthB hb 264)
theorem q_d_as_roots {K : PySem.W.Frag} (hb : (bsK K).all id = true) : PySem.W.codeIn K (fdK K (A_f_as_roots K)).code "as_roots" = true := dok (nthB hb 265)
theorem q_k_as_roots {K : PySem.W.Frag} (hb : (bsK K).all id = true) : PySem.W.keepIn K (.ref (A_f_as_roots K)) = true := dok (nthB hb 266)
theorem q_a__law_given {K : PySem.W.Frag} (hb : (bsK K).all id = true) : PySem.W.nsIn K mainGlobals "_law_given" = some (some (.ref (A_f__law_given K))) := isR_ok (nthB hb 267)
theorem q_d__law_given {K : PySem.W.Frag} (hb : (bsK K).all id = true) : PySem.W.codeIn K (fdK K (A_f__law_given K)).code "_law_given" = true := dok (nthB hb 268)
theorem q_k__law_given {K : PySem.W.Frag} (hb : (bsK K).all id = true) : PySem.W.keepIn K (.ref (A_f__law_given K)) = true := dok (nthB hb 269)
theorem q_a_check_point {K : PySem.W.Frag} (hb : (bsK K).all id = true) : PySem.W.nsIn K mainGlobals "check_point" = some (some (.ref (A_f_check_point K))) := isR_ok (nthB hb 270)
theorem q_d_check_point {K : PySem.W.Frag} (hb : (bsK K).all id = true) : PySem.W.codeIn K (fdK K (A_f_check_point K)).code "check_point" = true := dok (nthB hb 271)
theorem q_k_check_point {K : PySem.W.Frag} (hb : (bsK K).all id = true) : PySem.W.keepIn K (.ref (A_f_check_point K)) = true := dok (nthB hb 272)
theorem q_a_is_half {K : PySem.W.Frag} (hb : (bsK K).all id = true) : PySem.W.nsIn K mainGlobals "is_half" = some (some (.ref (A_f_is_half K))) := isR_ok (nthB hb 273)
theorem q_d_is_half {K : PySem.W.Frag} (hb : (bsK K).all id = true) : PySem.W.codeIn K (fdK K (A_f_is_half K)).code "is_half" = true := dok (nthB hb 274)
theorem q_k_is_half {K : PySem.W.Frag} (hb : (bsK K).all id = true) : PySem.W.keepIn K (.ref (A_f_is_half K)) = true := dok (nthB hb 275)
theorem q_a_bars_evenly {K : PySem.W.Frag} (hb : (bsK K).all id = true) : PySem.W.nsIn K mainGlobals "bars_evenly" = some (some (.ref (A_f_bars_evenly K))) := isR_ok (nthB hb 276)
theorem q_d_bars_evenly {K : PySem.W.Frag} (hb : (bsK K).all id = true) : PySem.W.codeIn K (fdK K (A_f_bars_evenly K)).code "bars_evenly" = true := dok (nthB hb 277)
theorem q_k_bars_evenly {K : PySem.W.Frag} (hb : (bsK K).all id = true) : PySem.W.keepIn K (.ref (A_f_bars_evenly K)) = true := dok (nthB hb 278)
theorem q_a_bars_oddly {K : PySem.W.Frag} (hb : (bsK K).all id = true) : PySem.W.nsIn K mainGlobals "bars_oddly" = some (some (.ref (A_f_bars_oddly K))) := isR_ok (nthB hb 279)
theorem q_d_bars_oddly {K : PySem.W.Frag} (hb : (bsK K).all id = true) : PySem.W.codeIn K (fdK K (A_f_bars_oddly K)).code "bars_oddly" = true := dok (nthB hb 280)
theorem q_k_bars_oddly {K : PySem.W.Frag} (hb : (bsK K).all id = true) : PySem.W.keepIn K (.ref (A_f_bars_oddly K)) = true := dok (nthB hb 281)
theorem q_a_barred {K : PySem.W.Frag} (hb : (bsK K).all id = true) : PySem.W.nsIn K mainGlobals "barred" = some (some (.ref (A_f_barred K))) := isR_ok (nthB hb 282)
theorem q_d_barred {K : PySem.W.Frag} (hb : (bsK K).all id = true) : PySem.W.codeIn K (fdK K (A_f_barred K)).code "barred" = true := dok (nthB hb 283)
theorem q_k_barred {K : PySem.W.Frag} (hb : (bsK K).all id = true) : PySem.W.keepIn K (.ref (A_f_barred K)) = true := dok (nthB hb 284)
theorem q_a_gauge_of {K : PySem.W.Frag} (hb : (bsK K).all id = true) : PySem.W.nsIn K mainGlobals "gauge_of" = some (some (.ref (A_f_gauge_of K))) := isR_ok (nthB hb 285)
theorem q_d_gauge_of {K : PySem.W.Frag} (hb : (bsK K).all id = true) : PySem.W.codeIn K (fdK K (A_f_gauge_of K)).code "gauge_of" = true := dok (nthB hb 286)
theorem q_k_gauge_of {K : PySem.W.Frag} (hb : (bsK K).all id = true) : PySem.W.keepIn K (.ref (A_f_gauge_of K)) = true := dok (nthB hb 287)
theorem q_a_beside {K : PySem.W.Frag} (hb : (bsK K).all id = true) : PySem.W.nsIn K mainGlobals "beside" = some (some (.ref (A_f_beside K))) := isR_ok (nthB hb 288)
theorem q_d_beside {K : PySem.W.Frag} (hb : (bsK K).all id = true) : PySem.W.codeIn K (fdK K (A_f_beside K)).code "beside" = true := dok (nthB hb 289)
theorem q_k_beside {K : PySem.W.Frag} (hb : (bsK K).all id = true) : PySem.W.keepIn K (.ref (A_f_beside K)) = true := dok (nthB hb 290)
theorem q_a_in_window {K : PySem.W.Frag} (hb : (bsK K).all id = true) : PySem.W.nsIn K mainGlobals "in_window" = some (some (.ref (A_f_in_window K))) := isR_ok (nthB hb 291)
theorem q_d_in_window {K : PySem.W.Frag} (hb : (bsK K).all id = true) : PySem.W.codeIn K (fdK K (A_f_in_window K)).code "in_window" = true := dok (nthB hb 292)
theorem q_k_in_window {K : PySem.W.Frag} (hb : (bsK K).all id = true) : PySem.W.keepIn K (.ref (A_f_in_window K)) = true := dok (nthB hb 293)
theorem q_a_Floor_init {K : PySem.W.Frag} (hb : (bsK K).all id = true) : PySem.W.findIn K (.ref (A_c_Floor K)) "__init__" = some (some (.ref (A_f_Floor_init K))) := isR_ok (nthB hb 294)
theorem q_i_Floor_init {K : PySem.W.Frag} (hb : (bsK K).all id = true) : PySem.W.isFn K (.ref (A_f_Floor_init K)) = true := dok (nthB hb 295)
theorem q_mk_Floor_init {K : PySem.W.Frag} (hb : (bsK K).all id = true) : PySem.W.makesIn K (A_c_Floor K) = true := dok (nthB hb 296)
theorem q_kc_Floor_init {K : PySem.W.Frag} (hb : (bsK K).all id = true) : PySem.W.keepIn K (.ref (A_c_Floor K)) = true := dok (nthB hb 297)
theorem q_d_Floor_init {K : PySem.W.Frag} (hb : (bsK K).all id = true) : PySem.W.codeIn K (fdK K (A_f_Floor_init K)).code "Floor.__init__" = true := dok (nthB hb 298)
theorem q_k_Floor_init {K : PySem.W.Frag} (hb : (bsK K).all id = true) : PySem.W.keepIn K (.ref (A_f_Floor_init K)) = true := dok (nthB hb 299)
theorem q_a_Floor_has_corner {K : PySem.W.Frag} (hb : (bsK K).all id = true) : PySem.W.findIn K (.ref (A_c_Floor K)) "has_corner" = some (some (.ref (A_f_Floor_has_corner K))) := isR_ok (nthB hb 300)
theorem q_i_Floor_has_corner {K : PySem.W.Frag} (hb : (bsK K).all id = true) : PySem.W.isFn K (.ref (A_f_Floor_has_corner K)) = true := dok (nthB hb 301)
theorem q_d_Floor_has_corner {K : PySem.W.Frag} (hb : (bsK K).all id = true) : PySem.W.codeIn K (fdK K (A_f_Floor_has_corner K)).code "Floor.has_corner" = true := dok (nthB hb 302)
theorem q_k_Floor_has_corner {K : PySem.W.Frag} (hb : (bsK K).all id = true) : PySem.W.keepIn K (.ref (A_f_Floor_has_corner K)) = true := dok (nthB hb 303)
theorem q_a__law_lines {K : PySem.W.Frag} (hb : (bsK K).all id = true) : PySem.W.nsIn K mainGlobals "_law_lines" = some (some (.ref (A_f__law_lines K))) := isR_ok (nthB hb 304)
theorem q_d__law_lines {K : PySem.W.Frag} (hb : (bsK K).all id = true) : PySem.W.codeIn K (fdK K (A_f__law_lines K)).code "_law_lines" = true := dok (nthB hb 305)
theorem q_k__law_lines {K : PySem.W.Frag} (hb : (bsK K).all id = true) : PySem.W.keepIn K (.ref (A_f__law_lines K)) = true := dok (nthB hb 306)
theorem q_a__law_inside {K : PySem.W.Frag} (hb : (bsK K).all id = true) : PySem.W.nsIn K mainGlobals "_law_inside" = some (some (.ref (A_f__law_inside K))) := isR_ok (nthB hb 307)
theorem q_d__law_inside {K : PySem.W.Frag} (hb : (bsK K).all id = true) : PySem.W.codeIn K (fdK K (A_f__law_inside K)).code "_law_inside" = true := dok (nthB hb 308)
theorem q_k__law_inside {K : PySem.W.Frag} (hb : (bsK K).all id = true) : PySem.W.keepIn K (.ref (A_f__law_inside K)) = true := dok (nthB hb 309)
theorem q_a__law_is_odd_half {K : PySem.W.Frag} (hb : (bsK K).all id = true) : PySem.W.nsIn K mainGlobals "_law_is_odd_half" = some (some (.ref (A_f__law_is_odd_half K))) := isR_ok (nthB hb 310)
theorem q_d__law_is_odd_half {K : PySem.W.Frag} (hb : (bsK K).all id = true) : PySem.W.codeIn K (fdK K (A_f__law_is_odd_half K)).code "_law_is_odd_half" = true := dok (nthB hb 311)
theorem q_k__law_is_odd_half {K : PySem.W.Frag} (hb : (bsK K).all id = true) : PySem.W.keepIn K (.ref (A_f__law_is_odd_half K)) = true := dok (nthB hb 312)
theorem q_a__law_barred {K : PySem.W.Frag} (hb : (bsK K).all id = true) : PySem.W.nsIn K mainGlobals "_law_barred" = some (some (.ref (A_f__law_barred K))) := isR_ok (nthB hb 313)
theorem q_d__law_barred {K : PySem.W.Frag} (hb : (bsK K).all id = true) : PySem.W.codeIn K (fdK K (A_f__law_barred K)).code "_law_barred" = true := dok (nthB hb 314)
theorem q_k__law_barred {K : PySem.W.Frag} (hb : (bsK K).all id = true) : PySem.W.keepIn K (.ref (A_f__law_barred K)) = true := dok (nthB hb 315)
theorem q_a__law_spot {K : PySem.W.Frag} (hb : (bsK K).all id = true) : PySem.W.nsIn K mainGlobals "_law_spot" = some (some (.ref (A_f__law_spot K))) := isR_ok (nthB hb 316)
theorem q_d__law_spot {K : PySem.W.Frag} (hb : (bsK K).all id = true) : PySem.W.codeIn K (fdK K (A_f__law_spot K)).code "_law_spot" = true := dok (nthB hb 317)
theorem q_k__law_spot {K : PySem.W.Frag} (hb : (bsK K).all id = true) : PySem.W.keepIn K (.ref (A_f__law_spot K)) = true := dok (nthB hb 318)
theorem q_a__law_shift {K : PySem.W.Frag} (hb : (bsK K).all id = true) : PySem.W.nsIn K mainGlobals "_law_shift" = some (some (.ref (A_f__law_shift K))) := isR_ok (nthB hb 319)
theorem q_d__law_shift {K : PySem.W.Frag} (hb : (bsK K).all id = true) : PySem.W.codeIn K (fdK K (A_f__law_shift K)).code "_law_shift" = true := dok (nthB hb 320)
theorem q_k__law_shift {K : PySem.W.Frag} (hb : (bsK K).all id = true) : PySem.W.keepIn K (.ref (A_f__law_shift K)) = true := dok (nthB hb 321)
theorem q_a__law_has {K : PySem.W.Frag} (hb : (bsK K).all id = true) : PySem.W.nsIn K mainGlobals "_law_has" = some (some (.ref (A_f__law_has K))) := isR_ok (nthB hb 322)
theorem q_d__law_has {K : PySem.W.Frag} (hb : (bsK K).all id = true) : PySem.W.codeIn K (fdK K (A_f__law_has K)).code "_law_has" = true := dok (nthB hb 323)
theorem q_k__law_has {K : PySem.W.Frag} (hb : (bsK K).all id = true) : PySem.W.keepIn K (.ref (A_f__law_has K)) = true := dok (nthB hb 324)
theorem q_a_Floorways {K : PySem.W.Frag} (hb : (bsK K).all id = true) : PySem.W.findIn K (.ref (A_c_Floor K)) "_ways" = some (some (.ref (A_f_Floorways K))) := isR_ok (nthB hb 325)
theorem q_i_Floorways {K : PySem.W.Frag} (hb : (bsK K).all id = true) : PySem.W.isFn K (.ref (A_f_Floorways K)) = true := dok (nthB hb 326)
theorem q_d_Floorways {K : PySem.W.Frag} (hb : (bsK K).all id = true) : PySem.W.codeIn K (fdK K (A_f_Floorways K)).code "Floor._ways" = true := dok (nthB hb 327)
theorem q_k_Floorways {K : PySem.W.Frag} (hb : (bsK K).all id = true) : PySem.W.keepIn K (.ref (A_f_Floorways K)) = true := dok (nthB hb 328)
theorem q_a_Floor_sides {K : PySem.W.Frag} (hb : (bsK K).all id = true) : PySem.W.findIn K (.ref (A_c_Floor K)) "sides" = some (some (.ref (A_f_Floor_sides K))) := isR_ok (nthB hb 329)
theorem q_i_Floor_sides {K : PySem.W.Frag} (hb : (bsK K).all id = true) : PySem.W.isFn K (.ref (A_f_Floor_sides K)) = true := dok (nthB hb 330)
theorem q_d_Floor_sides {K : PySem.W.Frag} (hb : (bsK K).all id = true) : PySem.W.codeIn K (fdK K (A_f_Floor_sides K)).code "Floor.sides" = true := dok (nthB hb 331)
theorem q_k_Floor_sides {K : PySem.W.Frag} (hb : (bsK K).all id = true) : PySem.W.keepIn K (.ref (A_f_Floor_sides K)) = true := dok (nthB hb 332)
theorem q_a__law_step {K : PySem.W.Frag} (hb : (bsK K).all id = true) : PySem.W.nsIn K mainGlobals "_law_step" = some (some (.ref (A_f__law_step K))) := isR_ok (nthB hb 333)
theorem q_d__law_step {K : PySem.W.Frag} (hb : (bsK K).all id = true) : PySem.W.codeIn K (fdK K (A_f__law_step K)).code "_law_step" = true := dok (nthB hb 334)
theorem q_k__law_step {K : PySem.W.Frag} (hb : (bsK K).all id = true) : PySem.W.keepIn K (.ref (A_f__law_step K)) = true := dok (nthB hb 335)
theorem q_a__law_sides {K : PySem.W.Frag} (hb : (bsK K).all id = true) : PySem.W.nsIn K mainGlobals "_law_sides" = some (some (.ref (A_f__law_sides K))) := isR_ok (nthB hb 336)
theorem q_d__law_sides {K : PySem.W.Frag} (hb : (bsK K).all id = true) : PySem.W.codeIn K (fdK K (A_f__law_sides K)).code "_law_sides" = true := dok (nthB hb 337)
theorem q_k__law_sides {K : PySem.W.Frag} (hb : (bsK K).all id = true) : PySem.W.keepIn K (.ref (A_f__law_sides K)) = true := dok (nthB hb 338)
theorem q_a__law_floor {K : PySem.W.Frag} (hb : (bsK K).all id = true) : PySem.W.nsIn K mainGlobals "_law_floor" = some (some (.ref (A_f__law_floor K))) := isR_ok (nthB hb 339)
theorem q_d__law_floor {K : PySem.W.Frag} (hb : (bsK K).all id = true) : PySem.W.codeIn K (fdK K (A_f__law_floor K)).code "_law_floor" = true := dok (nthB hb 340)
theorem q_k__law_floor {K : PySem.W.Frag} (hb : (bsK K).all id = true) : PySem.W.keepIn K (.ref (A_f__law_floor K)) = true := dok (nthB hb 341)
theorem q_a_is_tile {K : PySem.W.Frag} (hb : (bsK K).all id = true) : PySem.W.nsIn K mainGlobals "is_tile" = some (some (.ref (A_f_is_tile K))) := isR_ok (nthB hb 342)
theorem q_d_is_tile {K : PySem.W.Frag} (hb : (bsK K).all id = true) : PySem.W.codeIn K (fdK K (A_f_is_tile K)).code "is_tile" = true := dok (nthB hb 343)
theorem q_k_is_tile {K : PySem.W.Frag} (hb : (bsK K).all id = true) : PySem.W.keepIn K (.ref (A_f_is_tile K)) = true := dok (nthB hb 344)
theorem q_a_check_tile {K : PySem.W.Frag} (hb : (bsK K).all id = true) : PySem.W.nsIn K mainGlobals "check_tile" = some (some (.ref (A_f_check_tile K))) := isR_ok (nthB hb 345)
theorem q_d_check_tile {K : PySem.W.Frag} (hb : (bsK K).all id = true) : PySem.W.codeIn K (fdK K (A_f_check_tile K)).code "check_tile" = true := dok (nthB hb 346)
theorem q_k_check_tile {K : PySem.W.Frag} (hb : (bsK K).all id = true) : PySem.W.keepIn K (.ref (A_f_check_tile K)) = true := dok (nthB hb 347)
theorem q_a_tile_corners {K : PySem.W.Frag} (hb : (bsK K).all id = true) : PySem.W.nsIn K mainGlobals "tile_corners" = some (some (.ref (A_f_tile_corners K))) := isR_ok (nthB hb 348)
theorem q_d_tile_corners {K : PySem.W.Frag} (hb : (bsK K).all id = true) : PySem.W.codeIn K (fdK K (A_f_tile_corners K)).code "tile_corners" = true := dok (nthB hb 349)
theorem q_k_tile_corners {K : PySem.W.Frag} (hb : (bsK K).all id = true) : PySem.W.keepIn K (.ref (A_f_tile_corners K)) = true := dok (nthB hb 350)
theorem q_a_Floor_has_tile {K : PySem.W.Frag} (hb : (bsK K).all id = true) : PySem.W.findIn K (.ref (A_c_Floor K)) "has_tile" = some (some (.ref (A_f_Floor_has_tile K))) := isR_ok (nthB hb 351)
theorem q_i_Floor_has_tile {K : PySem.W.Frag} (hb : (bsK K).all id = true) : PySem.W.isFn K (.ref (A_f_Floor_has_tile K)) = true := dok (nthB hb 352)
theorem q_d_Floor_has_tile {K : PySem.W.Frag} (hb : (bsK K).all id = true) : PySem.W.codeIn K (fdK K (A_f_Floor_has_tile K)).code "Floor.has_tile" = true := dok (nthB hb 353)
theorem q_k_Floor_has_tile {K : PySem.W.Frag} (hb : (bsK K).all id = true) : PySem.W.keepIn K (.ref (A_f_Floor_has_tile K)) = true := dok (nthB hb 354)
theorem q_a__law_ends {K : PySem.W.Frag} (hb : (bsK K).all id = true) : PySem.W.nsIn K mainGlobals "_law_ends" = some (some (.ref (A_f__law_ends K))) := isR_ok (nthB hb 355)
theorem q_d__law_ends {K : PySem.W.Frag} (hb : (bsK K).all id = true) : PySem.W.codeIn K (fdK K (A_f__law_ends K)).code "_law_ends" = true := dok (nthB hb 356)
theorem q_k__law_ends {K : PySem.W.Frag} (hb : (bsK K).all id = true) : PySem.W.keepIn K (.ref (A_f__law_ends K)) = true := dok (nthB hb 357)
theorem q_a__law_has_tile {K : PySem.W.Frag} (hb : (bsK K).all id = true) : PySem.W.nsIn K mainGlobals "_law_has_tile" = some (some (.ref (A_f__law_has_tile K))) := isR_ok (nthB hb 358)
theorem q_d__law_has_tile {K : PySem.W.Frag} (hb : (bsK K).all id = true) : PySem.W.codeIn K (fdK K (A_f__law_has_tile K)).code "_law_has_tile" = true := dok (nthB hb 359)
theorem q_k__law_has_tile {K : PySem.W.Frag} (hb : (bsK K).all id = true) : PySem.W.keepIn K (.ref (A_f__law_has_tile K)) = true := dok (nthB hb 360)
theorem q_a__law_tile_between {K : PySem.W.Frag} (hb : (bsK K).all id = true) : PySem.W.nsIn K mainGlobals "_law_tile_between" = some (some (.ref (A_f__law_tile_between K))) := isR_ok (nthB hb 361)
theorem q_d__law_tile_between {K : PySem.W.Frag} (hb : (bsK K).all id = true) : PySem.W.codeIn K (fdK K (A_f__law_tile_between K)).code "_law_tile_between" = true := dok (nthB hb 362)
theorem q_k__law_tile_between {K : PySem.W.Frag} (hb : (bsK K).all id = true) : PySem.W.keepIn K (.ref (A_f__law_tile_between K)) = true := dok (nthB hb 363)
theorem q_a__law_tiles_at {K : PySem.W.Frag} (hb : (bsK K).all id = true) : PySem.W.nsIn K mainGlobals "_law_tiles_at" = some (some (.ref (A_f__law_tiles_at K))) := isR_ok (nthB hb 364)
theorem q_d__law_tiles_at {K : PySem.W.Frag} (hb : (bsK K).all id = true) : PySem.W.codeIn K (fdK K (A_f__law_tiles_at K)).code "_law_tiles_at" = true := dok (nthB hb 365)
theorem q_k__law_tiles_at {K : PySem.W.Frag} (hb : (bsK K).all id = true) : PySem.W.keepIn K (.ref (A_f__law_tiles_at K)) = true := dok (nthB hb 366)
theorem q_a_tile_between {K : PySem.W.Frag} (hb : (bsK K).all id = true) : PySem.W.nsIn K mainGlobals "tile_between" = some (some (.ref (A_f_tile_between K))) := isR_ok (nthB hb 367)
theorem q_d_tile_between {K : PySem.W.Frag} (hb : (bsK K).all id = true) : PySem.W.codeIn K (fdK K (A_f_tile_between K)).code "tile_between" = true := dok (nthB hb 368)
theorem q_k_tile_between {K : PySem.W.Frag} (hb : (bsK K).all id = true) : PySem.W.keepIn K (.ref (A_f_tile_between K)) = true := dok (nthB hb 369)
theorem q_a_Floor_tiles_at {K : PySem.W.Frag} (hb : (bsK K).all id = true) : PySem.W.findIn K (.ref (A_c_Floor K)) "tiles_at" = some (some (.ref (A_f_Floor_tiles_at K))) := isR_ok (nthB hb 370)
theorem q_i_Floor_tiles_at {K : PySem.W.Frag} (hb : (bsK K).all id = true) : PySem.W.isFn K (.ref (A_f_Floor_tiles_at K)) = true := dok (nthB hb 371)
theorem q_d_Floor_tiles_at {K : PySem.W.Frag} (hb : (bsK K).all id = true) : PySem.W.codeIn K (fdK K (A_f_Floor_tiles_at K)).code "Floor.tiles_at" = true := dok (nthB hb 372)
theorem q_k_Floor_tiles_at {K : PySem.W.Frag} (hb : (bsK K).all id = true) : PySem.W.keepIn K (.ref (A_f_Floor_tiles_at K)) = true := dok (nthB hb 373)
theorem q_a_Floor_across {K : PySem.W.Frag} (hb : (bsK K).all id = true) : PySem.W.findIn K (.ref (A_c_Floor K)) "across" = some (some (.ref (A_f_Floor_across K))) := isR_ok (nthB hb 374)
theorem q_i_Floor_across {K : PySem.W.Frag} (hb : (bsK K).all id = true) : PySem.W.isFn K (.ref (A_f_Floor_across K)) = true := dok (nthB hb 375)
theorem q_d_Floor_across {K : PySem.W.Frag} (hb : (bsK K).all id = true) : PySem.W.codeIn K (fdK K (A_f_Floor_across K)).code "Floor.across" = true := dok (nthB hb 376)
theorem q_k_Floor_across {K : PySem.W.Frag} (hb : (bsK K).all id = true) : PySem.W.keepIn K (.ref (A_f_Floor_across K)) = true := dok (nthB hb 377)
theorem q_a__law_is_tile {K : PySem.W.Frag} (hb : (bsK K).all id = true) : PySem.W.nsIn K mainGlobals "_law_is_tile" = some (some (.ref (A_f__law_is_tile K))) := isR_ok (nthB hb 378)
theorem q_d__law_is_tile {K : PySem.W.Frag} (hb : (bsK K).all id = true) : PySem.W.codeIn K (fdK K (A_f__law_is_tile K)).code "_law_is_tile" = true := dok (nthB hb 379)
theorem q_k__law_is_tile {K : PySem.W.Frag} (hb : (bsK K).all id = true) : PySem.W.keepIn K (.ref (A_f__law_is_tile K)) = true := dok (nthB hb 380)
theorem q_a__law_side_ends {K : PySem.W.Frag} (hb : (bsK K).all id = true) : PySem.W.nsIn K mainGlobals "_law_side_ends" = some (some (.ref (A_f__law_side_ends K))) := isR_ok (nthB hb 381)
theorem q_d__law_side_ends {K : PySem.W.Frag} (hb : (bsK K).all id = true) : PySem.W.codeIn K (fdK K (A_f__law_side_ends K)).code "_law_side_ends" = true := dok (nthB hb 382)
theorem q_k__law_side_ends {K : PySem.W.Frag} (hb : (bsK K).all id = true) : PySem.W.keepIn K (.ref (A_f__law_side_ends K)) = true := dok (nthB hb 383)
theorem q_a__law_side_with {K : PySem.W.Frag} (hb : (bsK K).all id = true) : PySem.W.nsIn K mainGlobals "_law_side_with" = some (some (.ref (A_f__law_side_with K))) := isR_ok (nthB hb 384)
theorem q_d__law_side_with {K : PySem.W.Frag} (hb : (bsK K).all id = true) : PySem.W.codeIn K (fdK K (A_f__law_side_with K)).code "_law_side_with" = true := dok (nthB hb 385)
theorem q_k__law_side_with {K : PySem.W.Frag} (hb : (bsK K).all id = true) : PySem.W.keepIn K (.ref (A_f__law_side_with K)) = true := dok (nthB hb 386)
theorem q_a__law_common {K : PySem.W.Frag} (hb : (bsK K).all id = true) : PySem.W.nsIn K mainGlobals "_law_common" = some (some (.ref (A_f__law_common K))) := isR_ok (nthB hb 387)
theorem q_d__law_common {K : PySem.W.Frag} (hb : (bsK K).all id = true) : PySem.W.codeIn K (fdK K (A_f__law_common K)).code "_law_common" = true := dok (nthB hb 388)
theorem q_k__law_common {K : PySem.W.Frag} (hb : (bsK K).all id = true) : PySem.W.keepIn K (.ref (A_f__law_common K)) = true := dok (nthB hb 389)
theorem q_a__law_round {K : PySem.W.Frag} (hb : (bsK K).all id = true) : PySem.W.nsIn K mainGlobals "_law_round" = some (some (.ref (A_f__law_round K))) := isR_ok (nthB hb 390)
theorem q_d__law_round {K : PySem.W.Frag} (hb : (bsK K).all id = true) : PySem.W.codeIn K (fdK K (A_f__law_round K)).code "_law_round" = true := dok (nthB hb 391)
theorem q_k__law_round {K : PySem.W.Frag} (hb : (bsK K).all id = true) : PySem.W.keepIn K (.ref (A_f__law_round K)) = true := dok (nthB hb 392)
theorem q_a_law {K : PySem.W.Frag} (hb : (bsK K).all id = true) : PySem.W.nsIn K mainGlobals "law" = some (some (.ref (A_f_law K))) := isR_ok (nthB hb 393)
theorem q_d_law {K : PySem.W.Frag} (hb : (bsK K).all id = true) : PySem.W.codeIn K (fdK K (A_f_law K)).code "law" = true := dok (nthB hb 394)
theorem q_k_law {K : PySem.W.Frag} (hb : (bsK K).all id = true) : PySem.W.keepIn K (.ref (A_f_law K)) = true := dok (nthB hb 395)
end L2.My
open PySem PySem.W PySem.Calls PyProof.Rows in
set_option maxRecDepth 100000 in
set_option maxHeartbeats 0 in
theorem PySem.Challenge.cw_threetiles_k14_whole_walks_across_tiles_holds : PySem.Challenge.rw_threetiles_k14_whole_walks_across_tiles.Holds := by
  w_on; o_law
  refine HandSHeadRun.head_imp (r := PySem.W.OpenLaw.row PySem.Challenge.rw_threetiles_k14_whole_walks_across_tiles) (q := view (PySem.W.OpenLaw.row PySem.Challenge.rw_threetiles_k14_whole_walks_across_tiles).prog [73]) (H := L2.My.hookF L2.My.nsK L2.My.bsK L2.My.fsK L2.My.wsK) (ob := L2.My.obF L2.My.nsK L2.My.bsK L2.My.fsK) (M := 20000) (loose := L2.My.namesK) (d := HandSHeadRun.topDef (PySem.W.OpenLaw.row PySem.Challenge.rw_threetiles_k14_whole_walks_across_tiles).prog 73) (kwd := []) L2.My.obF_eq
    L2.My.runH (by kernel_rfl) (by kernel_rfl) (by kernel_rfl) (by rfl) (by first | assumption | decide +kernel) (by decide +kernel) ⟨rfl, rfl, rfl, rfl, rfl, by decide +kernel⟩ ?hw ?hc
  case hw => w_witness2
  case hc =>
    refine L2.My.walk_ofEW (l := PySem.Challenge.rw_threetiles_k14_whole_walks_across_tiles) (n := 63) (k := 12) (x := "script") (CX := fun w => L2.CX (PySem.Challenge.rw_threetiles_k14_whole_walks_across_tiles).prog w) rfl (by decide) (by kernel_rfl) ⟨rfl, by decide, by decide⟩ ?F (fun _ _ _ _ _ z => L2.My.cx_no z)
    intro w mg fa h Y G hmg0
    obtain ⟨K, KX, hb, hf⟩ := Y
    have hmg : mg ("law" : PySem.Str) = some (.ref fa) := by
      have e : (HandSHeadRun.topDef (PySem.W.OpenLaw.row PySem.Challenge.rw_threetiles_k14_whole_walks_across_tiles).prog 73).name = ("law" : PySem.Str) := by kernel_rfl
      rw [← e]
      exact hmg0
    obtain ⟨_, e_L_BadNumber⟩ := L2.My.excB_ok (L2.My.nthB hb 48)
    obtain ⟨_, e_L_BadPoint⟩ := L2.My.excB_ok (L2.My.nthB hb 59)
    obtain ⟨_, e_L_BadCorner⟩ := L2.My.excB_ok (L2.My.nthB hb 70)
    obtain ⟨_, e_L_Barred⟩ := L2.My.excB_ok (L2.My.nthB hb 81)
    obtain ⟨_, e_L_NoCorner⟩ := L2.My.excB_ok (L2.My.nthB hb 92)
    obtain ⟨_, e_L_BadTile⟩ := L2.My.excB_ok (L2.My.nthB hb 103)
    obtain ⟨_, e_L_NoTile⟩ := L2.My.excB_ok (L2.My.nthB hb 114)
    obtain ⟨_, e_L_BadSide⟩ := L2.My.excB_ok (L2.My.nthB hb 125)
    obtain ⟨fd, h1, h2⟩ := L2.My.all_mk (P := (PySem.Challenge.rw_threetiles_k14_whole_walks_across_tiles).prog) (w := w) (c_FloorError := L2.My.A_c_FloorError K) (c_BadNumber := L2.My.A_c_BadNumber K) (c_BadPoint := L2.My.A_c_BadPoint K) (c_BadCorner := L2.My.A_c_BadCorner K) (c_Barred := L2.My.A_c_Barred K) (c_NoCorner := L2.My.A_c_NoCorner K) (c_BadTile := L2.My.A_c_BadTile K) (c_NoTile := L2.My.A_c_NoTile K) (c_BadSide := L2.My.A_c_BadSide K) (c_Root := L2.My.A_c_Root K) (c_Floor := L2.My.A_c_Floor K) (gAX := L2.My.A_gAX K) (gSX := L2.My.A_gSX K) (gMX := L2.My.A_gMX K) (f_is_integral := L2.My.A_f_is_integral K) (f_BadPoint_init := L2.My.A_f_BadPoint_init K) (f_BadCorner_init := L2.My.A_f_BadCorner_init K) (f_Barred_init := L2.My.A_f_Barred_init K) (f_NoCorner_init := L2.My.A_f_NoCorner_init K) (f_BadTile_init := L2.My.A_f_BadTile_init K) (f_NoTile_init := L2.My.A_f_NoTile_init K) (f_BadSide_init := L2.My.A_f_BadSide_init K) (f_BadNumber_init := L2.My.A_f_BadNumber_init K) (f_Root_init := L2.My.A_f_Root_init K) (f_Root_eq := L2.My.A_f_Root_eq K) (f_Root_neg := L2.My.A_f_Root_neg K) (f_is_number := L2.My.A_f_is_number K) (f_as_root := L2.My.A_f_as_root K) (f_surd_sign := L2.My.A_f_surd_sign K) (f_Root_add := L2.My.A_f_Root_add K) (f_Root_sub := L2.My.A_f_Root_sub K) (f_Root_mul := L2.My.A_f_Root_mul K) (f_Root_radd := L2.My.A_f_Root_radd K) (f_Root_rmul := L2.My.A_f_Root_rmul K) (f_Root_rsub := L2.My.A_f_Root_rsub K) (f_Root_less := L2.My.A_f_Root_less K) (f__law_start := L2.My.A_f__law_start K) (f__law_mixed := L2.My.A_f__law_mixed K) (f__law_draw := L2.My.A_f__law_draw K) (f__law_between := L2.My.A_f__law_between K) (f__law_plus := L2.My.A_f__law_plus K) (f__law_minus := L2.My.A_f__law_minus K) (f__law_sign := L2.My.A_f__law_sign K) (f_is_corner := L2.My.A_f_is_corner K) (f_check_corner := L2.My.A_f_check_corner K) (f_step := L2.My.A_f_step K) (f__law_star := L2.My.A_f__law_star K) (f__law_corner := L2.My.A_f__law_corner K) (f__law_is_corner := L2.My.A_f__law_is_corner K) (f_is_point := L2.My.A_f_is_point K) (f_as_roots := L2.My.A_f_as_roots K) (f__law_given := L2.My.A_f__law_given K) (f_check_point := L2.My.A_f_check_point K) (f_is_half := L2.My.A_f_is_half K) (f_bars_evenly := L2.My.A_f_bars_evenly K) (f_bars_oddly := L2.My.A_f_bars_oddly K) (f_barred := L2.My.A_f_barred K) (f_gauge_of := L2.My.A_f_gauge_of K) (f_beside := L2.My.A_f_beside K) (f_in_window := L2.My.A_f_in_window K) (f_Floor_init := L2.My.A_f_Floor_init K) (f_Floor_has_corner := L2.My.A_f_Floor_has_corner K) (f__law_lines := L2.My.A_f__law_lines K) (f__law_inside := L2.My.A_f__law_inside K) (f__law_is_odd_half := L2.My.A_f__law_is_odd_half K) (f__law_barred := L2.My.A_f__law_barred K) (f__law_spot := L2.My.A_f__law_spot K) (f__law_shift := L2.My.A_f__law_shift K) (f__law_has := L2.My.A_f__law_has K) (f_Floorways := L2.My.A_f_Floorways K) (f_Floor_sides := L2.My.A_f_Floor_sides K) (f__law_step := L2.My.A_f__law_step K) (f__law_sides := L2.My.A_f__law_sides K) (f__law_floor := L2.My.A_f__law_floor K) (f_is_tile := L2.My.A_f_is_tile K) (f_check_tile := L2.My.A_f_check_tile K) (f_tile_corners := L2.My.A_f_tile_corners K) (f_Floor_has_tile := L2.My.A_f_Floor_has_tile K) (f__law_ends := L2.My.A_f__law_ends K) (f__law_has_tile := L2.My.A_f__law_has_tile K) (f__law_tile_between := L2.My.A_f__law_tile_between K) (f__law_tiles_at := L2.My.A_f__law_tiles_at K) (f_tile_between := L2.My.A_f_tile_between K) (f_Floor_tiles_at := L2.My.A_f_Floor_tiles_at K) (f_Floor_across := L2.My.A_f_Floor_across K) (f__law_is_tile := L2.My.A_f__law_is_tile K) (f__law_side_ends := L2.My.A_f__law_side_ends K) (f__law_side_with := L2.My.A_f__law_side_with K) (f__law_common := L2.My.A_f__law_common K) (f__law_round := L2.My.A_f__law_round K) (f_law := L2.My.A_f_law K) KX G hmg (L2.My.q_r_FloorError hb) (L2.My.q_r_BadNumber hb) (L2.My.q_r_BadPoint hb) (L2.My.q_r_BadCorner hb) (L2.My.q_r_Barred hb) (L2.My.q_r_NoCorner hb) (L2.My.q_r_BadTile hb) (L2.My.q_r_NoTile hb) (L2.My.q_r_BadSide hb) (L2.My.q_r_Root hb) (L2.My.q_r_Floor hb) (L2.My.q_r_gcd hb) (L2.My.q_r_lcm hb) (L2.My.q_r_isinstance hb) (L2.My.q_r_list hb) (L2.My.q_r_int hb) (L2.My.q_r_range hb) (L2.My.q_r_len hb) (L2.My.q_r_abs hb) (L2.My.q_r_sorted hb) (L2.My.q_r_all hb) (L2.My.q_r_tuple hb) (L2.My.q_r_bool hb) (L2.My.q_r_enumerate hb) (L2.My.q_r_zip hb) (L2.My.q_r_pg hb) (L2.My.q_r_hd hb) (L2.My.q_r_po hb) (L2.My.q_r_sa hb) (L2.My.q_r_ca hb) (L2.My.q_r_hm hb) (L2.My.q_r_ic hb) (L2.My.q_r_tc hb) (L2.My.q_r_s1 hb) (L2.My.q_r_s2 hb) (L2.My.q_r_nt hb) (L2.My.q_r_nr hb) (L2.My.q_r_nb hb) (L2.My.q_r_sf hb) (L2.My.q_r_ra hb) (L2.My.q_r_rs hb) (L2.My.q_r_rm hb) (L2.My.q_o_pg_Floor hb) (L2.My.q_o_hd_Floor hb) (L2.My.q_o_po_Floor hb) (L2.My.q_o_sa_Floor hb) (L2.My.q_o_nf_Floor_shift hb) (L2.My.q_o_nf_Floor__gauge hb) e_L_BadNumber (L2.My.q_e_sa_BadNumber hb) (L2.My.q_e_e_BadNumber hb) (L2.My.q_e_t_BadNumber hb) (L2.My.q_e_k_BadNumber hb) (L2.My.q_e_n_BadNumber hb) (L2.My.q_e_ga_BadNumber hb) (L2.My.q_e_gg_BadNumber hb) (L2.My.q_e_hd_BadNumber hb) (L2.My.q_e_ic_BadNumber hb) (L2.My.q_e_s_BadNumber hb) e_L_BadPoint (L2.My.q_e_sa_BadPoint hb) (L2.My.q_e_e_BadPoint hb) (L2.My.q_e_t_BadPoint hb) (L2.My.q_e_k_BadPoint hb) (L2.My.q_e_n_BadPoint hb) (L2.My.q_e_ga_BadPoint hb) (L2.My.q_e_gg_BadPoint hb) (L2.My.q_e_hd_BadPoint hb) (L2.My.q_e_ic_BadPoint hb) (L2.My.q_e_s_BadPoint hb) e_L_BadCorner (L2.My.q_e_sa_BadCorner hb) (L2.My.q_e_e_BadCorner hb) (L2.My.q_e_t_BadCorner hb) (L2.My.q_e_k_BadCorner hb) (L2.My.q_e_n_BadCorner hb) (L2.My.q_e_ga_BadCorner hb) (L2.My.q_e_gg_BadCorner hb) (L2.My.q_e_hd_BadCorner hb) (L2.My.q_e_ic_BadCorner hb) (L2.My.q_e_s_BadCorner hb) e_L_Barred (L2.My.q_e_sa_Barred hb) (L2.My.q_e_e_Barred hb) (L2.My.q_e_t_Barred hb) (L2.My.q_e_k_Barred hb) (L2.My.q_e_n_Barred hb) (L2.My.q_e_ga_Barred hb) (L2.My.q_e_gg_Barred hb) (L2.My.q_e_hd_Barred hb) (L2.My.q_e_ic_Barred hb) (L2.My.q_e_s_Barred hb) e_L_NoCorner (L2.My.q_e_sa_NoCorner hb) (L2.My.q_e_e_NoCorner hb) (L2.My.q_e_t_NoCorner hb) (L2.My.q_e_k_NoCorner hb) (L2.My.q_e_n_NoCorner hb) (L2.My.q_e_ga_NoCorner hb) (L2.My.q_e_gg_NoCorner hb) (L2.My.q_e_hd_NoCorner hb) (L2.My.q_e_ic_NoCorner hb) (L2.My.q_e_s_NoCorner hb) e_L_BadTile (L2.My.q_e_sa_BadTile hb) (L2.My.q_e_e_BadTile hb) (L2.My.q_e_t_BadTile hb) (L2.My.q_e_k_BadTile hb) (L2.My.q_e_n_BadTile hb) (L2.My.q_e_ga_BadTile hb) (L2.My.q_e_gg_BadTile hb) (L2.My.q_e_hd_BadTile hb) (L2.My.q_e_ic_BadTile hb) (L2.My.q_e_s_BadTile hb) e_L_NoTile (L2.My.q_e_sa_NoTile hb) (L2.My.q_e_e_NoTile hb) (L2.My.q_e_t_NoTile hb) (L2.My.q_e_k_NoTile hb) (L2.My.q_e_n_NoTile hb) (L2.My.q_e_ga_NoTile hb) (L2.My.q_e_gg_NoTile hb) (L2.My.q_e_hd_NoTile hb) (L2.My.q_e_ic_NoTile hb) (L2.My.q_e_s_NoTile hb) e_L_BadSide (L2.My.q_e_sa_BadSide hb) (L2.My.q_e_e_BadSide hb) (L2.My.q_e_t_BadSide hb) (L2.My.q_e_k_BadSide hb) (L2.My.q_e_n_BadSide hb) (L2.My.q_e_ga_BadSide hb) (L2.My.q_e_gg_BadSide hb) (L2.My.q_e_hd_BadSide hb) (L2.My.q_e_ic_BadSide hb) (L2.My.q_e_s_BadSide hb) (L2.My.q_a_is_integral hb) (L2.My.fn_l (K := K) (f := L2.My.A_f_is_integral K) (n := "is_integral") (q := "is_integral") (st := L2.My.s_is_integral) (L2.My.nthF hf 0)) (L2.My.q_d_is_integral hb) (L2.My.q_k_is_integral hb) (L2.My.q_a_BadPoint_init hb) (L2.My.q_t_BadPoint_init hb) (L2.My.fn_l (K := K) (f := L2.My.A_f_BadPoint_init K) (n := "__init__") (q := "BadPoint.__init__") (st := L2.My.s_BadPoint_init) (L2.My.nthF hf 1)) (L2.My.q_d_BadPoint_init hb) (L2.My.q_k_BadPoint_init hb) (L2.My.q_a_BadCorner_init hb) (L2.My.q_t_BadCorner_init hb) (L2.My.fn_l (K := K) (f := L2.My.A_f_BadCorner_init K) (n := "__init__") (q := "BadCorner.__init__") (st := L2.My.s_BadCorner_init) (L2.My.nthF hf 2)) (L2.My.q_d_BadCorner_init hb) (L2.My.q_k_BadCorner_init hb) (L2.My.q_a_Barred_init hb) (L2.My.q_t_Barred_init hb) (L2.My.fn_l (K := K) (f := L2.My.A_f_Barred_init K) (n := "__init__") (q := "Barred.__init__") (st := L2.My.s_Barred_init) (L2.My.nthF hf 3)) (L2.My.q_d_Barred_init hb) (L2.My.q_k_Barred_init hb) (L2.My.q_a_NoCorner_init hb) (L2.My.q_t_NoCorner_init hb) (L2.My.fn_l (K := K) (f := L2.My.A_f_NoCorner_init K) (n := "__init__") (q := "NoCorner.__init__") (st := L2.My.s_NoCorner_init) (L2.My.nthF hf 4)) (L2.My.q_d_NoCorner_init hb) (L2.My.q_k_NoCorner_init hb) (L2.My.q_a_BadTile_init hb) (L2.My.q_t_BadTile_init hb) (L2.My.fn_l (K := K) (f := L2.My.A_f_BadTile_init K) (n := "__init__") (q := "BadTile.__init__") (st := L2.My.s_BadTile_init) (L2.My.nthF hf 5)) (L2.My.q_d_BadTile_init hb) (L2.My.q_k_BadTile_init hb) (L2.My.q_a_NoTile_init hb) (L2.My.q_t_NoTile_init hb) (L2.My.fn_l (K := K) (f := L2.My.A_f_NoTile_init K) (n := "__init__") (q := "NoTile.__init__") (st := L2.My.s_NoTile_init) (L2.My.nthF hf 6)) (L2.My.q_d_NoTile_init hb) (L2.My.q_k_NoTile_init hb) (L2.My.q_a_BadSide_init hb) (L2.My.q_t_BadSide_init hb) (L2.My.fn_l (K := K) (f := L2.My.A_f_BadSide_init K) (n := "__init__") (q := "BadSide.__init__") (st := L2.My.s_BadSide_init) (L2.My.nthF hf 7)) (L2.My.q_d_BadSide_init hb) (L2.My.q_k_BadSide_init hb) (L2.My.q_a_BadNumber_init hb) (L2.My.q_t_BadNumber_init hb) (L2.My.fn_l (K := K) (f := L2.My.A_f_BadNumber_init K) (n := "__init__") (q := "BadNumber.__init__") (st := L2.My.s_BadNumber_init) (L2.My.nthF hf 8)) (L2.My.q_d_BadNumber_init hb) (L2.My.q_k_BadNumber_init hb) (L2.My.q_a_Root_init hb) (L2.My.q_i_Root_init hb) (L2.My.q_mk_Root_init hb) (L2.My.q_kc_Root_init hb) (L2.My.fn_l (K := K) (f := L2.My.A_f_Root_init K) (n := "__init__") (q := "Root.__init__") (st := L2.My.s_Root_init) (L2.My.nthF hf 9)) (L2.My.q_d_Root_init hb) (L2.My.q_k_Root_init hb) (L2.My.q_a_Root_eq hb) (L2.My.q_i_Root_eq hb) (L2.My.fn_l (K := K) (f := L2.My.A_f_Root_eq K) (n := "__eq__") (q := "Root.__eq__") (st := L2.My.s_Root_eq) (L2.My.nthF hf 10)) (L2.My.q_d_Root_eq hb) (L2.My.q_k_Root_eq hb) (L2.My.q_a_Root_neg hb) (L2.My.q_i_Root_neg hb) (L2.My.fn_l (K := K) (f := L2.My.A_f_Root_neg K) (n := "__neg__") (q := "Root.__neg__") (st := L2.My.s_Root_neg) (L2.My.nthF hf 11)) (L2.My.q_d_Root_neg hb) (L2.My.q_k_Root_neg hb) (L2.My.q_a_is_number hb) (L2.My.fn_l (K := K) (f := L2.My.A_f_is_number K) (n := "is_number") (q := "is_number") (st := L2.My.s_is_number) (L2.My.nthF hf 12)) (L2.My.q_d_is_number hb) (L2.My.q_k_is_number hb) (L2.My.q_a_as_root hb) (L2.My.fn_l (K := K) (f := L2.My.A_f_as_root K) (n := "as_root") (q := "as_root") (st := L2.My.s_as_root) (L2.My.nthF hf 13)) (L2.My.q_d_as_root hb) (L2.My.q_k_as_root hb) (L2.My.q_a_surd_sign hb) (L2.My.fn_l (K := K) (f := L2.My.A_f_surd_sign K) (n := "surd_sign") (q := "surd_sign") (st := L2.My.s_surd_sign) (L2.My.nthF hf 14)) (L2.My.q_d_surd_sign hb) (L2.My.q_k_surd_sign hb) (L2.My.q_a_Root_add hb) (L2.My.q_i_Root_add hb) (L2.My.fn_l (K := K) (f := L2.My.A_f_Root_add K) (n := "__add__") (q := "Root.__add__") (st := L2.My.s_Root_add) (L2.My.nthF hf 15)) (L2.My.q_d_Root_add hb) (L2.My.q_k_Root_add hb) (L2.My.q_a_Root_sub hb) (L2.My.q_i_Root_sub hb) (L2.My.fn_l (K := K) (f := L2.My.A_f_Root_sub K) (n := "__sub__") (q := "Root.__sub__") (st := L2.My.s_Root_sub) (L2.My.nthF hf 16)) (L2.My.q_d_Root_sub hb) (L2.My.q_k_Root_sub hb) (L2.My.q_a_Root_mul hb) (L2.My.q_i_Root_mul hb) (L2.My.fn_l (K := K) (f := L2.My.A_f_Root_mul K) (n := "__mul__") (q := "Root.__mul__") (st := L2.My.s_Root_mul) (L2.My.nthF hf 17)) (L2.My.q_d_Root_mul hb) (L2.My.q_k_Root_mul hb) (L2.My.q_a_Root_radd hb) (L2.My.q_i_Root_radd hb) (L2.My.fn_l (K := K) (f := L2.My.A_f_Root_radd K) (n := "__radd__") (q := "Root.__radd__") (st := L2.My.s_Root_radd) (L2.My.nthF hf 18)) (L2.My.q_d_Root_radd hb) (L2.My.q_k_Root_radd hb) (L2.My.q_a_Root_rmul hb) (L2.My.q_i_Root_rmul hb) (L2.My.fn_l (K := K) (f := L2.My.A_f_Root_rmul K) (n := "__rmul__") (q := "Root.__rmul__") (st := L2.My.s_Root_rmul) (L2.My.nthF hf 19)) (L2.My.q_d_Root_rmul hb) (L2.My.q_k_Root_rmul hb) (L2.My.q_a_Root_rsub hb) (L2.My.q_i_Root_rsub hb) (L2.My.fn_l (K := K) (f := L2.My.A_f_Root_rsub K) (n := "__rsub__") (q := "Root.__rsub__") (st := L2.My.s_Root_rsub) (L2.My.nthF hf 20)) (L2.My.q_d_Root_rsub hb) (L2.My.q_k_Root_rsub hb) (L2.My.q_a_Root_less hb) (L2.My.q_i_Root_less hb) (L2.My.fn_l (K := K) (f := L2.My.A_f_Root_less K) (n := "less") (q := "Root.less") (st := L2.My.s_Root_less) (L2.My.nthF hf 21)) (L2.My.q_d_Root_less hb) (L2.My.q_k_Root_less hb) (L2.My.q_a__law_start hb) (L2.My.fn_l (K := K) (f := L2.My.A_f__law_start K) (n := "_law_start") (q := "_law_start") (st := L2.My.s__law_start) (L2.My.nthF hf 22)) (L2.My.q_d__law_start hb) (L2.My.q_k__law_start hb) (L2.My.q_a__law_mixed hb) (L2.My.fn_l (K := K) (f := L2.My.A_f__law_mixed K) (n := "_law_mixed") (q := "_law_mixed") (st := L2.My.s__law_mixed) (L2.My.nthF hf 23)) (L2.My.q_d__law_mixed hb) (L2.My.q_k__law_mixed hb) (L2.My.q_a__law_draw hb) (L2.My.fn_l (K := K) (f := L2.My.A_f__law_draw K) (n := "_law_draw") (q := "_law_draw") (st := L2.My.s__law_draw) (L2.My.nthF hf 24)) (L2.My.q_d__law_draw hb) (L2.My.q_k__law_draw hb) (L2.My.q_a__law_between hb) (L2.My.fn_l (K := K) (f := L2.My.A_f__law_between K) (n := "_law_between") (q := "_law_between") (st := L2.My.s__law_between) (L2.My.nthF hf 25)) (L2.My.q_d__law_between hb) (L2.My.q_k__law_between hb) (L2.My.q_a__law_plus hb) (L2.My.fn_l (K := K) (f := L2.My.A_f__law_plus K) (n := "_law_plus") (q := "_law_plus") (st := L2.My.s__law_plus) (L2.My.nthF hf 26)) (L2.My.q_d__law_plus hb) (L2.My.q_k__law_plus hb) (L2.My.q_a__law_minus hb) (L2.My.fn_l (K := K) (f := L2.My.A_f__law_minus K) (n := "_law_minus") (q := "_law_minus") (st := L2.My.s__law_minus) (L2.My.nthF hf 27)) (L2.My.q_d__law_minus hb) (L2.My.q_k__law_minus hb) (L2.My.q_a__law_sign hb) (L2.My.fn_l (K := K) (f := L2.My.A_f__law_sign K) (n := "_law_sign") (q := "_law_sign") (st := L2.My.s__law_sign) (L2.My.nthF hf 28)) (L2.My.q_d__law_sign hb) (L2.My.q_k__law_sign hb) (L2.My.q_a_is_corner hb) (L2.My.fn_l (K := K) (f := L2.My.A_f_is_corner K) (n := "is_corner") (q := "is_corner") (st := L2.My.s_is_corner) (L2.My.nthF hf 29)) (L2.My.q_d_is_corner hb) (L2.My.q_k_is_corner hb) (L2.My.q_a_check_corner hb) (L2.My.fn_l (K := K) (f := L2.My.A_f_check_corner K) (n := "check_corner") (q := "check_corner") (st := L2.My.s_check_corner) (L2.My.nthF hf 30)) (L2.My.q_d_check_corner hb) (L2.My.q_k_check_corner hb) (L2.My.q_a_step hb) (L2.My.fn_l (K := K) (f := L2.My.A_f_step K) (n := "step") (q := "step") (st := L2.My.s_step) (L2.My.nthF hf 31)) (L2.My.q_d_step hb) (L2.My.q_k_step hb) (L2.My.q_a__law_star hb) (L2.My.fn_l (K := K) (f := L2.My.A_f__law_star K) (n := "_law_star") (q := "_law_star") (st := L2.My.s__law_star) (L2.My.nthF hf 32)) (L2.My.q_d__law_star hb) (L2.My.q_k__law_star hb) (L2.My.q_a__law_corner hb) (L2.My.fn_l (K := K) (f := L2.My.A_f__law_corner K) (n := "_law_corner") (q := "_law_corner") (st := L2.My.s__law_corner) (L2.My.nthF hf 33)) (L2.My.q_d__law_corner hb) (L2.My.q_k__law_corner hb) (L2.My.q_a__law_is_corner hb) (L2.My.fn_l (K := K) (f := L2.My.A_f__law_is_corner K) (n := "_law_is_corner") (q := "_law_is_corner") (st := L2.My.s__law_is_corner) (L2.My.nthF hf 34)) (L2.My.q_d__law_is_corner hb) (L2.My.q_k__law_is_corner hb) (L2.My.q_a_is_point hb) (L2.My.fn_l (K := K) (f := L2.My.A_f_is_point K) (n := "is_point") (q := "is_point") (st := L2.My.s_is_point) (L2.My.nthF hf 35)) (L2.My.q_d_is_point hb) (L2.My.q_k_is_point hb) (L2.My.q_a_as_roots hb) (L2.My.fn_l (K := K) (f := L2.My.A_f_as_roots K) (n := "as_roots") (q := "as_roots") (st := L2.My.s_as_roots) (L2.My.nthF hf 36)) (L2.My.q_d_as_roots hb) (L2.My.q_k_as_roots hb) (L2.My.q_a__law_given hb) (L2.My.fn_l (K := K) (f := L2.My.A_f__law_given K) (n := "_law_given") (q := "_law_given") (st := L2.My.s__law_given) (L2.My.nthF hf 37)) (L2.My.q_d__law_given hb) (L2.My.q_k__law_given hb) (L2.My.q_a_check_point hb) (L2.My.fn_l (K := K) (f := L2.My.A_f_check_point K) (n := "check_point") (q := "check_point") (st := L2.My.s_check_point) (L2.My.nthF hf 38)) (L2.My.q_d_check_point hb) (L2.My.q_k_check_point hb) (L2.My.q_a_is_half hb) (L2.My.fn_l (K := K) (f := L2.My.A_f_is_half K) (n := "is_half") (q := "is_half") (st := L2.My.s_is_half) (L2.My.nthF hf 39)) (L2.My.q_d_is_half hb) (L2.My.q_k_is_half hb) (L2.My.q_a_bars_evenly hb) (L2.My.fn_l (K := K) (f := L2.My.A_f_bars_evenly K) (n := "bars_evenly") (q := "bars_evenly") (st := L2.My.s_bars_evenly) (L2.My.nthF hf 40)) (L2.My.q_d_bars_evenly hb) (L2.My.q_k_bars_evenly hb) (L2.My.q_a_bars_oddly hb) (L2.My.fn_l (K := K) (f := L2.My.A_f_bars_oddly K) (n := "bars_oddly") (q := "bars_oddly") (st := L2.My.s_bars_oddly) (L2.My.nthF hf 41)) (L2.My.q_d_bars_oddly hb) (L2.My.q_k_bars_oddly hb) (L2.My.q_a_barred hb) (L2.My.fn_l (K := K) (f := L2.My.A_f_barred K) (n := "barred") (q := "barred") (st := L2.My.s_barred) (L2.My.nthF hf 42)) (L2.My.q_d_barred hb) (L2.My.q_k_barred hb) (L2.My.q_a_gauge_of hb) (L2.My.fn_l (K := K) (f := L2.My.A_f_gauge_of K) (n := "gauge_of") (q := "gauge_of") (st := L2.My.s_gauge_of) (L2.My.nthF hf 43)) (L2.My.q_d_gauge_of hb) (L2.My.q_k_gauge_of hb) (L2.My.q_a_beside hb) (L2.My.fn_l (K := K) (f := L2.My.A_f_beside K) (n := "beside") (q := "beside") (st := L2.My.s_beside) (L2.My.nthF hf 44)) (L2.My.q_d_beside hb) (L2.My.q_k_beside hb) (L2.My.q_a_in_window hb) (L2.My.fn_l (K := K) (f := L2.My.A_f_in_window K) (n := "in_window") (q := "in_window") (st := L2.My.s_in_window) (L2.My.nthF hf 45)) (L2.My.q_d_in_window hb) (L2.My.q_k_in_window hb) (L2.My.q_a_Floor_init hb) (L2.My.q_i_Floor_init hb) (L2.My.q_mk_Floor_init hb) (L2.My.q_kc_Floor_init hb) (L2.My.fn_l (K := K) (f := L2.My.A_f_Floor_init K) (n := "__init__") (q := "Floor.__init__") (st := L2.My.s_Floor_init) (L2.My.nthF hf 46)) (L2.My.q_d_Floor_init hb) (L2.My.q_k_Floor_init hb) (L2.My.q_a_Floor_has_corner hb) (L2.My.q_i_Floor_has_corner hb) (L2.My.fn_l (K := K) (f := L2.My.A_f_Floor_has_corner K) (n := "has_corner") (q := "Floor.has_corner") (st := L2.My.s_Floor_has_corner) (L2.My.nthF hf 47)) (L2.My.q_d_Floor_has_corner hb) (L2.My.q_k_Floor_has_corner hb) (L2.My.q_a__law_lines hb) (L2.My.fn_l (K := K) (f := L2.My.A_f__law_lines K) (n := "_law_lines") (q := "_law_lines") (st := L2.My.s__law_lines) (L2.My.nthF hf 48)) (L2.My.q_d__law_lines hb) (L2.My.q_k__law_lines hb) (L2.My.q_a__law_inside hb) (L2.My.fn_l (K := K) (f := L2.My.A_f__law_inside K) (n := "_law_inside") (q := "_law_inside") (st := L2.My.s__law_inside) (L2.My.nthF hf 49)) (L2.My.q_d__law_inside hb) (L2.My.q_k__law_inside hb) (L2.My.q_a__law_is_odd_half hb) (L2.My.fn_l (K := K) (f := L2.My.A_f__law_is_odd_half K) (n := "_law_is_odd_half") (q := "_law_is_odd_half") (st := L2.My.s__law_is_odd_half) (L2.My.nthF hf 50)) (L2.My.q_d__law_is_odd_half hb) (L2.My.q_k__law_is_odd_half hb) (L2.My.q_a__law_barred hb) (L2.My.fn_l (K := K) (f := L2.My.A_f__law_barred K) (n := "_law_barred") (q := "_law_barred") (st := L2.My.s__law_barred) (L2.My.nthF hf 51)) (L2.My.q_d__law_barred hb) (L2.My.q_k__law_barred hb) (L2.My.q_a__law_spot hb) (L2.My.fn_l (K := K) (f := L2.My.A_f__law_spot K) (n := "_law_spot") (q := "_law_spot") (st := L2.My.s__law_spot) (L2.My.nthF hf 52)) (L2.My.q_d__law_spot hb) (L2.My.q_k__law_spot hb) (L2.My.q_a__law_shift hb) (L2.My.fn_l (K := K) (f := L2.My.A_f__law_shift K) (n := "_law_shift") (q := "_law_shift") (st := L2.My.s__law_shift) (L2.My.nthF hf 53)) (L2.My.q_d__law_shift hb) (L2.My.q_k__law_shift hb) (L2.My.q_a__law_has hb) (L2.My.fn_l (K := K) (f := L2.My.A_f__law_has K) (n := "_law_has") (q := "_law_has") (st := L2.My.s__law_has) (L2.My.nthF hf 54)) (L2.My.q_d__law_has hb) (L2.My.q_k__law_has hb) (L2.My.q_a_Floorways hb) (L2.My.q_i_Floorways hb) (L2.My.fn_l (K := K) (f := L2.My.A_f_Floorways K) (n := "_ways") (q := "Floor._ways") (st := L2.My.s_Floorways) (L2.My.nthF hf 55)) (L2.My.q_d_Floorways hb) (L2.My.q_k_Floorways hb) (L2.My.q_a_Floor_sides hb) (L2.My.q_i_Floor_sides hb) (L2.My.fn_l (K := K) (f := L2.My.A_f_Floor_sides K) (n := "sides") (q := "Floor.sides") (st := L2.My.s_Floor_sides) (L2.My.nthF hf 56)) (L2.My.q_d_Floor_sides hb) (L2.My.q_k_Floor_sides hb) (L2.My.q_a__law_step hb) (L2.My.fn_l (K := K) (f := L2.My.A_f__law_step K) (n := "_law_step") (q := "_law_step") (st := L2.My.s__law_step) (L2.My.nthF hf 57)) (L2.My.q_d__law_step hb) (L2.My.q_k__law_step hb) (L2.My.q_a__law_sides hb) (L2.My.fn_l (K := K) (f := L2.My.A_f__law_sides K) (n := "_law_sides") (q := "_law_sides") (st := L2.My.s__law_sides) (L2.My.nthF hf 58)) (L2.My.q_d__law_sides hb) (L2.My.q_k__law_sides hb) (L2.My.q_a__law_floor hb) (L2.My.fn_l (K := K) (f := L2.My.A_f__law_floor K) (n := "_law_floor") (q := "_law_floor") (st := L2.My.s__law_floor) (L2.My.nthF hf 59)) (L2.My.q_d__law_floor hb) (L2.My.q_k__law_floor hb) (L2.My.q_a_is_tile hb) (L2.My.fn_l (K := K) (f := L2.My.A_f_is_tile K) (n := "is_tile") (q := "is_tile") (st := L2.My.s_is_tile) (L2.My.nthF hf 60)) (L2.My.q_d_is_tile hb) (L2.My.q_k_is_tile hb) (L2.My.q_a_check_tile hb) (L2.My.fn_l (K := K) (f := L2.My.A_f_check_tile K) (n := "check_tile") (q := "check_tile") (st := L2.My.s_check_tile) (L2.My.nthF hf 61)) (L2.My.q_d_check_tile hb) (L2.My.q_k_check_tile hb) (L2.My.q_a_tile_corners hb) (L2.My.fn_l (K := K) (f := L2.My.A_f_tile_corners K) (n := "tile_corners") (q := "tile_corners") (st := L2.My.s_tile_corners) (L2.My.nthF hf 62)) (L2.My.q_d_tile_corners hb) (L2.My.q_k_tile_corners hb) (L2.My.q_a_Floor_has_tile hb) (L2.My.q_i_Floor_has_tile hb) (L2.My.fn_l (K := K) (f := L2.My.A_f_Floor_has_tile K) (n := "has_tile") (q := "Floor.has_tile") (st := L2.My.s_Floor_has_tile) (L2.My.nthF hf 63)) (L2.My.q_d_Floor_has_tile hb) (L2.My.q_k_Floor_has_tile hb) (L2.My.q_a__law_ends hb) (L2.My.fn_l (K := K) (f := L2.My.A_f__law_ends K) (n := "_law_ends") (q := "_law_ends") (st := L2.My.s__law_ends) (L2.My.nthF hf 64)) (L2.My.q_d__law_ends hb) (L2.My.q_k__law_ends hb) (L2.My.q_a__law_has_tile hb) (L2.My.fn_l (K := K) (f := L2.My.A_f__law_has_tile K) (n := "_law_has_tile") (q := "_law_has_tile") (st := L2.My.s__law_has_tile) (L2.My.nthF hf 65)) (L2.My.q_d__law_has_tile hb) (L2.My.q_k__law_has_tile hb) (L2.My.q_a__law_tile_between hb) (L2.My.fn_l (K := K) (f := L2.My.A_f__law_tile_between K) (n := "_law_tile_between") (q := "_law_tile_between") (st := L2.My.s__law_tile_between) (L2.My.nthF hf 66)) (L2.My.q_d__law_tile_between hb) (L2.My.q_k__law_tile_between hb) (L2.My.q_a__law_tiles_at hb) (L2.My.fn_l (K := K) (f := L2.My.A_f__law_tiles_at K) (n := "_law_tiles_at") (q := "_law_tiles_at") (st := L2.My.s__law_tiles_at) (L2.My.nthF hf 67)) (L2.My.q_d__law_tiles_at hb) (L2.My.q_k__law_tiles_at hb) (L2.My.q_a_tile_between hb) (L2.My.fn_l (K := K) (f := L2.My.A_f_tile_between K) (n := "tile_between") (q := "tile_between") (st := L2.My.s_tile_between) (L2.My.nthF hf 68)) (L2.My.q_d_tile_between hb) (L2.My.q_k_tile_between hb) (L2.My.q_a_Floor_tiles_at hb) (L2.My.q_i_Floor_tiles_at hb) (L2.My.fn_l (K := K) (f := L2.My.A_f_Floor_tiles_at K) (n := "tiles_at") (q := "Floor.tiles_at") (st := L2.My.s_Floor_tiles_at) (L2.My.nthF hf 69)) (L2.My.q_d_Floor_tiles_at hb) (L2.My.q_k_Floor_tiles_at hb) (L2.My.q_a_Floor_across hb) (L2.My.q_i_Floor_across hb) (L2.My.fn_l (K := K) (f := L2.My.A_f_Floor_across K) (n := "across") (q := "Floor.across") (st := L2.My.s_Floor_across) (L2.My.nthF hf 70)) (L2.My.q_d_Floor_across hb) (L2.My.q_k_Floor_across hb) (L2.My.q_a__law_is_tile hb) (L2.My.fn_l (K := K) (f := L2.My.A_f__law_is_tile K) (n := "_law_is_tile") (q := "_law_is_tile") (st := L2.My.s__law_is_tile) (L2.My.nthF hf 71)) (L2.My.q_d__law_is_tile hb) (L2.My.q_k__law_is_tile hb) (L2.My.q_a__law_side_ends hb) (L2.My.fn_l (K := K) (f := L2.My.A_f__law_side_ends K) (n := "_law_side_ends") (q := "_law_side_ends") (st := L2.My.s__law_side_ends) (L2.My.nthF hf 72)) (L2.My.q_d__law_side_ends hb) (L2.My.q_k__law_side_ends hb) (L2.My.q_a__law_side_with hb) (L2.My.fn_l (K := K) (f := L2.My.A_f__law_side_with K) (n := "_law_side_with") (q := "_law_side_with") (st := L2.My.s__law_side_with) (L2.My.nthF hf 73)) (L2.My.q_d__law_side_with hb) (L2.My.q_k__law_side_with hb) (L2.My.q_a__law_common hb) (L2.My.fn_l (K := K) (f := L2.My.A_f__law_common K) (n := "_law_common") (q := "_law_common") (st := L2.My.s__law_common) (L2.My.nthF hf 74)) (L2.My.q_d__law_common hb) (L2.My.q_k__law_common hb) (L2.My.q_a__law_round hb) (L2.My.fn_l (K := K) (f := L2.My.A_f__law_round K) (n := "_law_round") (q := "_law_round") (st := L2.My.s__law_round) (L2.My.nthF hf 75)) (L2.My.q_d__law_round hb) (L2.My.q_k__law_round hb) (L2.My.q_a_law hb) (L2.My.fn_l (K := K) (f := L2.My.A_f_law K) (n := "law") (q := "law") (st := L2.My.s_law) (L2.My.nthF hf 76)) (L2.My.q_d_law hb) (L2.My.q_k_law hb)
    exact ⟨K, fd, L2.My.spTop K, KX, h1, fun H a ns _ _ hS => ⟨a, ns, rfl, hS, fun _ => rfl⟩, h2⟩

