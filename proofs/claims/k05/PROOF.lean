import PyProof.Rows.All
import Wide.All
import OpenK.AllK
import Wide.FinOn
import HandS.ForMost
import HandS.ForExc
import HandS.SlotsOwn
import KE.KMathG
import KE.KOpsOwn
import HandS.ExcInit
import HandS.ExcField
import HandS.ExcIs
import HandS.IsInst
import HandS.OwnEq
import HandS.Gcd
import HandS.Wide
import HandS.Codes
import HandS.Style
import HandS.DictComp
import HandS.Zip
import HandS.TupAny
import PySem.Challenge.RW_threetiles_k05_whole_corners_turned_and
set_option Elab.async false
set_option linter.all false
set_option maxRecDepth 100000
set_option maxHeartbeats 4000000

/-! W0: what all my proofs share: callees by name (Has), steps that walk a reading (walk_at "w"), wide rules. -/
namespace L2.My
open PySem PySem.Spec PyProof.Rows

/-! ### callees by name -/
section
variable (P : Program) (w : World) (K : PySem.W.Frag) (mg : Str → Option Value) (base : Heap)
/-- a def of the module that keeps a promise -/
def Has (x : Str) (k : Nat) (ps : List Str) (sp : Sp) : Prop :=
  ∃ f fd, FnOk P w K mg base (L2.CX P w) k f fd ps sp ∧ mg x = some (.ref f) ∧ PySem.W.keepIn K (.ref f) = true ∧ Binds K fd ps []
/-- a method -/
def HasM (C : Addr) (m : Str) (k : Nat) (ps : List Str) (sp : Sp) : Prop :=
  ∃ f fd, FnOk P w K mg base (L2.CX P w) k f fd ps sp ∧ Meth K C m f ∧ Binds K fd ps []
/-- a class that is made -/
def HasC (x : Str) (C : Addr) (k : Nat) (ps : List Str) (sp : Sp) : Prop :=
  ∃ f fd, FnOk P w K mg base (L2.CX P w) k f fd ps sp ∧ Mk K C f ∧ mg x = some (.ref C) ∧ Binds K fd ps []
end
section
variable {X : Cx} {x m : Str} {k j : Nat} {ps : List Str} {sp : Sp} {E : St → XK} {e o : Expr} {es : List Expr} {t : TA} {ta : TE} {p pos apos : Pos} {C f : Addr} {fd : FuncData}
/-- nothing is let out -/
theorem pa0 : ∀ σ, PassesAt (L2.CX X.prog X.w) X σ ((fun _ => E0 : St → XK) σ) := fun σ pins H s e s' I h => passL pins σ H s e s' I h
/-- what is wished at the slots -/
theorem paW {W : WX} (tk : Takes X W) : ∀ σ, PassesAt (L2.CX X.prog X.w) X σ (WE W σ) := fun σ => passAt tk σ
/-- what the def wishes of an exception -/
abbrev ED (E : XK) : St → XK := WE (fun cls d _ H => E cls d H)
theorem pe_h (h : Has X.prog X.w X.K X.mg X.base x k ps sp) (hr : Room j X.A) (hx : ∀ σ, PassesAt (L2.CX X.prog X.w) X σ (E σ)) (ha : PA X (e :: es) t) (hj : k ≤ j := by decide) (hg : Gl X x := by rfl) (hdb : (x == ("__debug__" : Str)) = false := by decide)
    (he : starEach (e :: es) X.env = (false, eval e X.env) :: starEach es X.env := by rfl) (hpl : (backTo pos (starEach es X.env)).any (·.1) = false := by rfl) :
    PE X (.Call (.Name x p) (e :: es) [] pos) (tCallS sp E t) := by
  obtain ⟨f, fd, F, hm, hk, hb⟩ := h
  exact pe_callS F (hr.mono hj) hg hm hk hb hx ha hdb he hpl
theorem pe_h0 (h : Has X.prog X.w X.K X.mg X.base x k ps sp) (hr : Room j X.A) (hx : ∀ σ, PassesAt (L2.CX X.prog X.w) X σ (E σ)) (hj : k ≤ j := by decide) (hg : Gl X x := by rfl) (hdb : (x == ("__debug__" : Str)) = false := by decide) :
    PE X (.Call (.Name x p) [] [] pos) (tCallS sp E tNil) := by
  obtain ⟨f, fd, F, hm, hk, hb⟩ := h
  refine ⟨fun pins s σ H Q I hh => ?_⟩
  refine wpAny_Call_Name_kw (ld_glob I hg hm ?_ hdb)
  exact PySem.W.callWith_K0 I.kIn hk (run_fnS (us := []) F (hr.mono hj) hb (hx σ) I .nil hh)
/-- C(..) -/
theorem run_makeS {pins : List (Addr × Obj)} {σ : St} {H : Hp} {s : Shared} {Q : VK} {us : List Value} {vs : List V} (M : Mk X.K C f) (F : FnOk X.prog X.w X.K X.mg X.base (L2.CX X.prog X.w) k f fd ps sp) (hr : Room (k + 1) X.A) (hb : Binds X.K fd ps [])
    (hx : PassesAt (L2.CX X.prog X.w) X σ (E σ)) (I : Inv X pins σ H s) (r : Vals vs us)
    (h : ∀ x dx, H x = none → H dx = none → dx ≠ x → sp (.ref x :: vs) (upd (upd H dx (.own x)) x (.ins C dx [])) (fun v H2 => v = .non ∧ Q (.ref x) H2) (E σ)) :
    wpAny (model X.prog X.w) X.A (call (.ref C) us) (EP X pins σ Q) X.xe s := by
  have hq := h (s.heap.objs.size + 1) s.heap.objs.size (I.hok.fresh (Nat.le_succ _)) (I.hok.fresh (Nat.le_refl _)) (Nat.ne_of_lt (Nat.lt_succ_self _))
  have I2 := Inv.made (C := C) I
  have r2 : Vals (V.ref (s.heap.objs.size + 1) :: vs) (Value.ref (s.heap.objs.size + 1) :: us) := .cons rfl r
  have hl : (Value.ref (s.heap.objs.size + 1) :: us).length = ps.length := by
    have e := r2.length
    rw [F.len _ _ _ _ hq] at e
    exact e.symm
  have bb := hb _ (Value.ref (s.heap.objs.size + 1) :: us) I2.kIn (by rw [List.append_nil]; exact hl)
  rw [List.append_nil] at bb
  refine wpAny_call (make_map (f := f) I.kIn M.makes M.init (beq_iff_eq.mp M.fn) (codeAny_mono (F.run _ X.stack _ _ ⟨Value.ref (s.heap.objs.size + 1) :: us, []⟩ (Value.ref (s.heap.objs.size + 1) :: us) _ _ (E σ) (hr.make C us [])
    (I2.env0.make C us []) bb r2 hq) fun r s' hq' => ?_))
  cases r with
  | error e => exact hx pins _ _ e s' I2 hq'
  | ok fl =>
    cases fl with
    | ret u =>
      obtain ⟨v, H', I3, rv, ev, q3⟩ := I2.after hq'
      subst ev
      exact ⟨rv, ⟨V.ref (s.heap.objs.size + 1), H', I3, rfl, q3⟩⟩
    | next => exact False.elim hq'
    | brk => exact False.elim hq'
    | cont => exact False.elim hq'
def tMakeS (C : Addr) (sp : Sp) (E : St → XK) (t : TA) : TE := fun σ H Q => t σ H fun vs H1 => ∀ x dx, H1 x = none → H1 dx = none → dx ≠ x →
  sp (.ref x :: vs) (upd (upd H1 dx (.own x)) x (.ins C dx [])) (fun v H2 => v = .non ∧ Q (.ref x) H2) (E σ)
theorem pe_hc (h : HasC X.prog X.w X.K X.mg X.base x C k ps sp) (hr : Room j X.A) (hx : ∀ σ, PassesAt (L2.CX X.prog X.w) X σ (E σ)) (ha : PA X (e :: es) t) (hj : k + 1 ≤ j := by decide) (hg : Gl X x := by rfl) (hdb : (x == ("__debug__" : Str)) = false := by decide)
    (he : starEach (e :: es) X.env = (false, eval e X.env) :: starEach es X.env := by rfl) (hpl : (backTo pos (starEach es X.env)).any (·.1) = false := by rfl) :
    PE X (.Call (.Name x p) (e :: es) [] pos) (tMakeS C sp E t) := by
  obtain ⟨f, fd, F, M, hm, hb⟩ := h
  refine ⟨fun pins s σ H Q I h => ?_⟩
  refine wpAny_Call_Name_kw (ld_glob I hg hm ?_ hdb)
  refine PySem.W.callWith_K (h₀ := X.base) I.ok.mod.kin M.kp (thn (ha.run pos pins s σ H _ I h) fun us s1 ⟨vs, H1, I1, r, q⟩ => ⟨I1.kIn, ?_⟩) he hpl
  exact run_makeS M F (hr.mono hj) hb (hx σ) I1 r q
/-- o.m(..) -/
def tMethS (C : Addr) (m : Str) (sp : Sp) (E : St → XK) (ta : TE) (t : TA) : TE := fun σ H Q => ta σ H fun x H1 => ∃ a dx fs, x = .ref a ∧ H1 a = some (.ins C dx fs) ∧ fs.lookup m = none ∧
  t σ H1 fun vs H2 => sp (x :: vs) H2 Q (E σ)
theorem pe_hm {pl : Sem Bool} (h : HasM X.prog X.w X.K X.mg X.base C m k ps sp) (c : Cls X.K C) (hr : Room j X.A) (hx : ∀ σ, PassesAt (L2.CX X.prog X.w) X σ (E σ)) (ho : PE X o ta) (ha : PA X (e :: es) t) (hj : k ≤ j := by decide)
    (hst : starEach (e :: es) X.env = (false, eval e X.env) :: starEach es X.env := by rfl) (hpl : (backTo pos (starEach es X.env)).any (·.1) = false := by rfl)
    (ht : eval (.Call (.Attribute o m apos) (e :: es) [] pos) X.env = (do
      let ov ← eval o X.env
      standAt apos.atName
      let (f, first) ← holding [ov] (getMethod ov m pl)
      callWith pos f first (backTo pos (starEach (e :: es) X.env)) (backToKw pos (keywordEach [] X.env))) := by rfl) :
    PE X (.Call (.Attribute o m apos) (e :: es) [] pos) (tMethS C m sp E ta t) := by
  obtain ⟨f, fd, F, hm, hb⟩ := h
  refine ⟨fun pins s σ H Q I h => ?_⟩
  refine PySem.W.methodCall_KW (pl := pl) (thn (ho.run pins s σ H _ I h) fun u s1 ⟨x, H1, I1, rx, a, dx, fs, ex, ea, l, q⟩ => ?_) ht
  subst ex
  obtain rfl : u = Value.ref a := rx
  refine getmeth_ok I1 ea c hm l ?_
  refine PySem.W.callWith_K (first := [.ref a]) (h₀ := X.base) I.ok.mod.kin hm.kp (thn (ha.run pos pins s1 σ H1 _ I1 q) fun us s2 ⟨vs, H2, I2, r, q2⟩ => ⟨I2.kIn, ?_⟩) hst hpl
  exact run_fnS (us := .ref a :: us) (vs := .ref a :: vs) F (hr.mono hj) hb (hx σ) I2 (.cons rfl r) q2
theorem pe_hm0 {pl : Sem Bool} (h : HasM X.prog X.w X.K X.mg X.base C m k ps sp) (c : Cls X.K C) (hr : Room j X.A) (hx : ∀ σ, PassesAt (L2.CX X.prog X.w) X σ (E σ)) (ho : PE X o ta) (hj : k ≤ j := by decide)
    (ht : eval (.Call (.Attribute o m apos) [] [] pos) X.env = (do
      let ov ← eval o X.env
      standAt apos.atName
      let (f, first) ← holding [ov] (getMethod ov m pl)
      callWith pos f first (backTo pos (starEach [] X.env)) (backToKw pos (keywordEach [] X.env))) := by rfl) :
    PE X (.Call (.Attribute o m apos) [] [] pos) (tMethS C m sp E ta tNil) := by
  obtain ⟨f, fd, F, hm, hb⟩ := h
  refine ⟨fun pins s σ H Q I h => ?_⟩
  refine PySem.W.methodCall_KW (pl := pl) (thn (ho.run pins s σ H _ I h) fun u s1 ⟨x, H1, I1, rx, a, dx, fs, ex, ea, l, q⟩ => ?_) ht
  subst ex
  obtain rfl : u = Value.ref a := rx
  refine getmeth_ok I1 ea c hm l ?_
  exact PySem.W.callWith_K0 (first := [.ref a]) I1.kIn hm.kp (run_fnS (us := [.ref a]) (vs := [.ref a]) F (hr.mono hj) hb (hx σ) I1 (.cons rfl .nil) q)
end

/-! ### numbers of any size -/
/-- // by what is not 0, below 2 ^ 9000 in size -/
def CDivN9 (_ j : Int) : Prop := j ≠ 0 ∧ j.natAbs.log2 < 9000
section
variable {X : Cx}
theorem op_fdivV : OpR X (binaryOp .FloorDiv) (rI CDivN9 fun i j => .int (i.fdiv j)) := opI fun i j _ _ _ _ _ hc q =>
  floordiv_int hc.1 q (.inl (PyProof.noPylong_of_log2 hc.2))
end

/-! ### steps that walk a reading -/
section
variable {σ σ' : St} {H : Hp} {v x y : V} {i j : Int} {n : Nat} {b : Bool} {ta tb te : TE} {t u : TT} {ts us : TS} {r : R2} {D : Ends} {Q : VK} {QB : Bool → Hp → Prop} {QL : List V → Hp → Prop} {tl : TA}
theorem w_var (h : σ[n]? = some (some v)) (q : Q v H) : tVar n σ H Q := ⟨v, h, q⟩
theorem w_c (q : Q v H) : tC v σ H Q := q
theorem w_op (q : ta σ H fun x H1 => tb σ H1 fun y H2 => r x y H2 Q) : tOp r ta tb σ H Q := q
theorem w_un {r : V → Hp → VK → Prop} (q : ta σ H fun x H1 => r x H1 Q) : tUn r ta σ H Q := q
theorem w_I0 {g : Int → Int → V} (q : Q (g i j) H) : rI0 g (.int i) (.int j) H Q := ⟨i, j, rfl, rfl, q⟩
theorem w_I {C : Int → Int → Prop} {g : Int → Int → V} (c : C i j) (q : Q (g i j) H) : rI C g (.int i) (.int j) H Q := ⟨i, j, rfl, rfl, c, q⟩
theorem w_U {g : Int → V} (q : Q (g i) H) : rU g (.int i) H Q := ⟨i, rfl, q⟩
theorem w_eq (h : scal x y = true) (q : Q (.bl (decide (x = y))) H) : rEq x y H Q := ⟨h, q⟩
theorem w_ne (h : scal x y = true) (q : Q (.bl (!decide (x = y))) H) : rNe x y H Q := ⟨h, q⟩
theorem w_test (q : te σ H fun x H' => ∃ k, x = .bl k ∧ QB k H') : tTest te σ H QB := q
theorem w_B (q : te σ H fun x H' => ∃ k, x = .bl k ∧ QB k H') : tB te σ H QB := q
theorem w_bl (q : QB b H) : ∃ k, V.bl b = .bl k ∧ QB k H := ⟨b, rfl, q⟩
theorem w_and (q : t σ H fun c H1 => if c = true then u σ H1 QB else QB false H1) : tAnd t u σ H QB := q
theorem w_or (q : t σ H fun c H1 => if c = true then QB true H1 else u σ H1 QB) : tOr t u σ H QB := q
theorem w_not (q : t σ H fun c H1 => QB (!c) H1) : tNot t σ H QB := q
theorem w_andV (q : ta σ H fun x H1 => ∃ c, x = .bl c ∧ if c = true then tb σ H1 Q else Q (.bl false) H1) : tAndV ta tb σ H Q := q
theorem w_orV (q : ta σ H fun x H1 => ∃ c, x = .bl c ∧ if c = true then Q (.bl true) H1 else tb σ H1 Q) : tOrV ta tb σ H Q := q
theorem w_notV (q : ta σ H fun x H1 => ∃ c, x = .bl c ∧ Q (.bl (!c)) H1) : tNotV ta σ H Q := q
theorem w_blV {p : Bool → Prop} (q : p b) : ∃ c, V.bl b = .bl c ∧ p c := ⟨b, rfl, q⟩
theorem w_seq {nx bk ct : L2.St → Hp → Prop} {rt : VK} (q : ts ⟨us ⟨nx, rt, bk, ct⟩, rt, bk, ct⟩ σ H) : tSeq ts us ⟨nx, rt, bk, ct⟩ σ H := q
theorem w_next {nx bk ct : L2.St → Hp → Prop} {rt : VK} (q : nx σ H) : tNext ⟨nx, rt, bk, ct⟩ σ H := q
theorem w_asg {g : TG} {nx bk ct : L2.St → Hp → Prop} {rt : VK} (q : te σ H fun x H1 => g x σ H1 nx) : tAsg te g ⟨nx, rt, bk, ct⟩ σ H := q
theorem w_drop {nx bk ct : L2.St → Hp → Prop} {rt : VK} (q : te σ H fun _ H1 => nx σ H1) : tDrop te ⟨nx, rt, bk, ct⟩ σ H := q
theorem w_ret {nx bk ct : L2.St → Hp → Prop} {rt : VK} (q : te σ H rt) : tRet te ⟨nx, rt, bk, ct⟩ σ H := q
theorem w_if {c : TT} (q : c σ H fun b H1 => if b = true then ts D σ H1 else us D σ H1) : tIfS c ts us D σ H := q
theorem w_name {N : St → Hp → Prop} (h : σ.set n (some v) = σ') (q : N σ' H) : gName n v σ H N := by rw [← h] at q; exact q
theorem w_nil (q : QL [] H) : tNil σ H QL := q
theorem w_cons (q : te σ H fun x H1 => tl σ H1 fun xs H2 => QL (x :: xs) H2) : tCons te tl σ H QL := q
theorem w_T {A B : Prop} {c : Bool} (h : c = true) (q : A) : if c = true then A else B := by rw [h]; exact iteT q
theorem w_F {A B : Prop} {c : Bool} (h : c = false) (q : B) : if c = true then A else B := by rw [h]; exact iteF q
theorem w_ite {c A B : Prop} [Decidable c] (h1 : c → A) (h2 : ¬ c → B) : if decide c = true then A else B := by
  by_cases h : c
  · rw [decide_eq_true h]; exact iteT (h1 h)
  · rw [decide_eq_false h]; exact iteF (h2 h)
theorem w_call {sp : Sp} {E : St → XK} (q : tl σ H fun vs H1 => sp vs H1 Q (E σ)) : tCallS sp E tl σ H Q := q
theorem w_cb {r : List V → Hp → VK → Prop} (q : tl σ H fun vs H1 => r vs H1 Q) : tCB r tl σ H Q := q
theorem set0 {a0 : Option V} {l : St} : (a0 :: l).set 0 (some v) = some v :: l := rfl
theorem set1 {a0 a1 : Option V} {l : St} : (a0 :: a1 :: l).set 1 (some v) = a0 :: some v :: l := rfl
theorem set2 {a0 a1 a2 : Option V} {l : St} : (a0 :: a1 :: a2 :: l).set 2 (some v) = a0 :: a1 :: some v :: l := rfl
theorem set3 {a0 a1 a2 a3 : Option V} {l : St} : (a0 :: a1 :: a2 :: a3 :: l).set 3 (some v) = a0 :: a1 :: a2 :: some v :: l := rfl
theorem set4 {a0 a1 a2 a3 a4 : Option V} {l : St} : (a0 :: a1 :: a2 :: a3 :: a4 :: l).set 4 (some v) = a0 :: a1 :: a2 :: a3 :: some v :: l := rfl
theorem set5 {a0 a1 a2 a3 a4 a5 : Option V} {l : St} : (a0 :: a1 :: a2 :: a3 :: a4 :: a5 :: l).set 5 (some v) = a0 :: a1 :: a2 :: a3 :: a4 :: some v :: l := rfl
theorem set6 {a0 a1 a2 a3 a4 a5 a6 : Option V} {l : St} : (a0 :: a1 :: a2 :: a3 :: a4 :: a5 :: a6 :: l).set 6 (some v) = a0 :: a1 :: a2 :: a3 :: a4 :: a5 :: some v :: l := rfl
theorem set7 {a0 a1 a2 a3 a4 a5 a6 a7 : Option V} {l : St} : (a0 :: a1 :: a2 :: a3 :: a4 :: a5 :: a6 :: a7 :: l).set 7 (some v) = a0 :: a1 :: a2 :: a3 :: a4 :: a5 :: a6 :: some v :: l := rfl
theorem set8 {a0 a1 a2 a3 a4 a5 a6 a7 a8 : Option V} {l : St} : (a0 :: a1 :: a2 :: a3 :: a4 :: a5 :: a6 :: a7 :: a8 :: l).set 8 (some v) = a0 :: a1 :: a2 :: a3 :: a4 :: a5 :: a6 :: a7 :: some v :: l := rfl
theorem set9 {a0 a1 a2 a3 a4 a5 a6 a7 a8 a9 : Option V} {l : St} : (a0 :: a1 :: a2 :: a3 :: a4 :: a5 :: a6 :: a7 :: a8 :: a9 :: l).set 9 (some v) = a0 :: a1 :: a2 :: a3 :: a4 :: a5 :: a6 :: a7 :: a8 :: some v :: l := rfl
theorem set10 {a0 a1 a2 a3 a4 a5 a6 a7 a8 a9 a10 : Option V} {l : St} : (a0 :: a1 :: a2 :: a3 :: a4 :: a5 :: a6 :: a7 :: a8 :: a9 :: a10 :: l).set 10 (some v) = a0 :: a1 :: a2 :: a3 :: a4 :: a5 :: a6 :: a7 :: a8 :: a9 :: some v :: l := rfl
theorem set11 {a0 a1 a2 a3 a4 a5 a6 a7 a8 a9 a10 a11 : Option V} {l : St} : (a0 :: a1 :: a2 :: a3 :: a4 :: a5 :: a6 :: a7 :: a8 :: a9 :: a10 :: a11 :: l).set 11 (some v) = a0 :: a1 :: a2 :: a3 :: a4 :: a5 :: a6 :: a7 :: a8 :: a9 :: a10 :: some v :: l := rfl
theorem set12 {a0 a1 a2 a3 a4 a5 a6 a7 a8 a9 a10 a11 a12 : Option V} {l : St} : (a0 :: a1 :: a2 :: a3 :: a4 :: a5 :: a6 :: a7 :: a8 :: a9 :: a10 :: a11 :: a12 :: l).set 12 (some v) = a0 :: a1 :: a2 :: a3 :: a4 :: a5 :: a6 :: a7 :: a8 :: a9 :: a10 :: a11 :: some v :: l := rfl
theorem set13 {a0 a1 a2 a3 a4 a5 a6 a7 a8 a9 a10 a11 a12 a13 : Option V} {l : St} : (a0 :: a1 :: a2 :: a3 :: a4 :: a5 :: a6 :: a7 :: a8 :: a9 :: a10 :: a11 :: a12 :: a13 :: l).set 13 (some v) = a0 :: a1 :: a2 :: a3 :: a4 :: a5 :: a6 :: a7 :: a8 :: a9 :: a10 :: a11 :: a12 :: some v :: l := rfl
theorem set14 {a0 a1 a2 a3 a4 a5 a6 a7 a8 a9 a10 a11 a12 a13 a14 : Option V} {l : St} : (a0 :: a1 :: a2 :: a3 :: a4 :: a5 :: a6 :: a7 :: a8 :: a9 :: a10 :: a11 :: a12 :: a13 :: a14 :: l).set 14 (some v) = a0 :: a1 :: a2 :: a3 :: a4 :: a5 :: a6 :: a7 :: a8 :: a9 :: a10 :: a11 :: a12 :: a13 :: some v :: l := rfl
theorem set15 {a0 a1 a2 a3 a4 a5 a6 a7 a8 a9 a10 a11 a12 a13 a14 a15 : Option V} {l : St} : (a0 :: a1 :: a2 :: a3 :: a4 :: a5 :: a6 :: a7 :: a8 :: a9 :: a10 :: a11 :: a12 :: a13 :: a14 :: a15 :: l).set 15 (some v) = a0 :: a1 :: a2 :: a3 :: a4 :: a5 :: a6 :: a7 :: a8 :: a9 :: a10 :: a11 :: a12 :: a13 :: a14 :: some v :: l := rfl
theorem set16 {a0 a1 a2 a3 a4 a5 a6 a7 a8 a9 a10 a11 a12 a13 a14 a15 a16 : Option V} {l : St} : (a0 :: a1 :: a2 :: a3 :: a4 :: a5 :: a6 :: a7 :: a8 :: a9 :: a10 :: a11 :: a12 :: a13 :: a14 :: a15 :: a16 :: l).set 16 (some v) = a0 :: a1 :: a2 :: a3 :: a4 :: a5 :: a6 :: a7 :: a8 :: a9 :: a10 :: a11 :: a12 :: a13 :: a14 :: a15 :: some v :: l := rfl
theorem set17 {a0 a1 a2 a3 a4 a5 a6 a7 a8 a9 a10 a11 a12 a13 a14 a15 a16 a17 : Option V} {l : St} : (a0 :: a1 :: a2 :: a3 :: a4 :: a5 :: a6 :: a7 :: a8 :: a9 :: a10 :: a11 :: a12 :: a13 :: a14 :: a15 :: a16 :: a17 :: l).set 17 (some v) = a0 :: a1 :: a2 :: a3 :: a4 :: a5 :: a6 :: a7 :: a8 :: a9 :: a10 :: a11 :: a12 :: a13 :: a14 :: a15 :: a16 :: some v :: l := rfl
theorem set18 {a0 a1 a2 a3 a4 a5 a6 a7 a8 a9 a10 a11 a12 a13 a14 a15 a16 a17 a18 : Option V} {l : St} : (a0 :: a1 :: a2 :: a3 :: a4 :: a5 :: a6 :: a7 :: a8 :: a9 :: a10 :: a11 :: a12 :: a13 :: a14 :: a15 :: a16 :: a17 :: a18 :: l).set 18 (some v) = a0 :: a1 :: a2 :: a3 :: a4 :: a5 :: a6 :: a7 :: a8 :: a9 :: a10 :: a11 :: a12 :: a13 :: a14 :: a15 :: a16 :: a17 :: some v :: l := rfl
theorem set19 {a0 a1 a2 a3 a4 a5 a6 a7 a8 a9 a10 a11 a12 a13 a14 a15 a16 a17 a18 a19 : Option V} {l : St} : (a0 :: a1 :: a2 :: a3 :: a4 :: a5 :: a6 :: a7 :: a8 :: a9 :: a10 :: a11 :: a12 :: a13 :: a14 :: a15 :: a16 :: a17 :: a18 :: a19 :: l).set 19 (some v) = a0 :: a1 :: a2 :: a3 :: a4 :: a5 :: a6 :: a7 :: a8 :: a9 :: a10 :: a11 :: a12 :: a13 :: a14 :: a15 :: a16 :: a17 :: a18 :: some v :: l := rfl
theorem set20 {a0 a1 a2 a3 a4 a5 a6 a7 a8 a9 a10 a11 a12 a13 a14 a15 a16 a17 a18 a19 a20 : Option V} {l : St} : (a0 :: a1 :: a2 :: a3 :: a4 :: a5 :: a6 :: a7 :: a8 :: a9 :: a10 :: a11 :: a12 :: a13 :: a14 :: a15 :: a16 :: a17 :: a18 :: a19 :: a20 :: l).set 20 (some v) = a0 :: a1 :: a2 :: a3 :: a4 :: a5 :: a6 :: a7 :: a8 :: a9 :: a10 :: a11 :: a12 :: a13 :: a14 :: a15 :: a16 :: a17 :: a18 :: a19 :: some v :: l := rfl
theorem set21 {a0 a1 a2 a3 a4 a5 a6 a7 a8 a9 a10 a11 a12 a13 a14 a15 a16 a17 a18 a19 a20 a21 : Option V} {l : St} : (a0 :: a1 :: a2 :: a3 :: a4 :: a5 :: a6 :: a7 :: a8 :: a9 :: a10 :: a11 :: a12 :: a13 :: a14 :: a15 :: a16 :: a17 :: a18 :: a19 :: a20 :: a21 :: l).set 21 (some v) = a0 :: a1 :: a2 :: a3 :: a4 :: a5 :: a6 :: a7 :: a8 :: a9 :: a10 :: a11 :: a12 :: a13 :: a14 :: a15 :: a16 :: a17 :: a18 :: a19 :: a20 :: some v :: l := rfl
theorem set22 {a0 a1 a2 a3 a4 a5 a6 a7 a8 a9 a10 a11 a12 a13 a14 a15 a16 a17 a18 a19 a20 a21 a22 : Option V} {l : St} : (a0 :: a1 :: a2 :: a3 :: a4 :: a5 :: a6 :: a7 :: a8 :: a9 :: a10 :: a11 :: a12 :: a13 :: a14 :: a15 :: a16 :: a17 :: a18 :: a19 :: a20 :: a21 :: a22 :: l).set 22 (some v) = a0 :: a1 :: a2 :: a3 :: a4 :: a5 :: a6 :: a7 :: a8 :: a9 :: a10 :: a11 :: a12 :: a13 :: a14 :: a15 :: a16 :: a17 :: a18 :: a19 :: a20 :: a21 :: some v :: l := rfl
theorem set23 {a0 a1 a2 a3 a4 a5 a6 a7 a8 a9 a10 a11 a12 a13 a14 a15 a16 a17 a18 a19 a20 a21 a22 a23 : Option V} {l : St} : (a0 :: a1 :: a2 :: a3 :: a4 :: a5 :: a6 :: a7 :: a8 :: a9 :: a10 :: a11 :: a12 :: a13 :: a14 :: a15 :: a16 :: a17 :: a18 :: a19 :: a20 :: a21 :: a22 :: a23 :: l).set 23 (some v) = a0 :: a1 :: a2 :: a3 :: a4 :: a5 :: a6 :: a7 :: a8 :: a9 :: a10 :: a11 :: a12 :: a13 :: a14 :: a15 :: a16 :: a17 :: a18 :: a19 :: a20 :: a21 :: a22 :: some v :: l := rfl
end
end L2.My

/-! W1: own ==, reflected ==, own minus in front; gcd of three; raising an own error; is of bools. -/
namespace L2.My
open PySem PySem.Spec PyProof.Rows PySem.SeqAt
open AutoSeq1 (wpAny_loadPart')

/-! ### the type of a value that is known -/
section
variable {X : Cx} {pins : List (Addr × Obj)} {σ : St} {H : Hp} {s : Shared} {y : V} {u t : Value}
theorem looks_ty (I : Inv X pins σ H s) (ru : RelV y u) (ty : TyX X.K H y t) : PySem.W.Looks (model X.prog X.w) s.heap (typeOf u) t := by
  obtain ⟨P, Z, p, _⟩ := kit_of I ru ty
  exact Z.ty _ _ I.kIn p
end

/-! ### x op y by x's own def -/
section
variable {X : Cx} {C : Addr} {k j : Nat} {ps : List Str} {sp : Sp} {E : XK} {m : Str}
def rOwnC (K : PySem.W.Frag) (C : Addr) (sp : Sp) (E : XK) : R2 := fun x y H Q => ∃ a dx fs t, x = .ref a ∧ H a = some (.ins C dx fs) ∧ TyX K H y t ∧ PySem.W.notFirst K C t = true ∧ sp [x, y] H Q E
theorem op_ownC {op : CmpOp} (hop : ∀ a b, compareOp op a b = richCompare op a b) (h : HasM X.prog X.w X.K X.mg X.base C (cmpInfo op).2.1 k ps sp) (hr : Room j X.A) (hx : Passes (L2.CX X.prog X.w) X E) (hj : k ≤ j := by decide) :
    OpR X (compareOp op) (rOwnC X.K C sp E) := by
  obtain ⟨f, fd, Fo, hm, hb⟩ := h
  intro pins s σ H x y v u Q I rx ry hh
  obtain ⟨a, dx, fs, t, rfl, ha, ty, hn, q⟩ := hh
  cases (show v = Value.ref a from rx)
  obtain ⟨mA, O, _⟩ := ins_get I.hok ha
  obtain ⟨od, J, _⟩ := O.look
  have hb' := looks_ty I ry ty
  obtain ⟨m, hF⟩ := I.fr
  rw [hop]
  refine PySem.W.cmp_K (op := op) (tb := t) hr.units0 hF I.ok.mod.kin J hb' hn hm.at_ hm.fn ?_
  refine wpAny_mono (run_fn Fo (hr.mono hj) hb .nil hx I (.cons rx (.cons ry .nil)) q) (fun w s' z => ?_) fun _ _ x => x
  obtain ⟨z', H', I', rz, qz⟩ := z
  exact SlX.cmpback rz ⟨z', H', I', rz, qz⟩
theorem op_eqC (h : HasM X.prog X.w X.K X.mg X.base C "__eq__" k ps sp) (hr : Room j X.A) (hx : Passes (L2.CX X.prog X.w) X E) (hj : k ≤ j := by decide) :
    OpR X (compareOp .Eq) (rOwnC X.K C sp E) := op_ownC (fun _ _ => rfl) h hr hx hj

/-! ### an int or a bool == an instance: the instance's own def, turned about -/
theorem int_eq_declines_ins_int (b : Int) (u : Tok) (l C dx : Addr) :
    Meets (Builtin.«int.__eq__» ⟨[.int b u, .ref l], []⟩) (fun _ R s => s.heap.get? l = some (PySem.W.instObj C dx) ∧ R (.ok (.ret .notImplemented)) s) :=
  .of_wp fun prog w A R s h => by obtain ⟨hp, g, d, tk, os⟩ := s; obtain ⟨hl, h⟩ := h; wp_walk using wpAny_loadPart' hl, wpAny_load hl; exact ⟨_, rfl, h⟩
theorem int_eq_declines_ins_bool (b : Bool) (l C dx : Addr) :
    Meets (Builtin.«int.__eq__» ⟨[.bool b, .ref l], []⟩) (fun _ R s => s.heap.get? l = some (PySem.W.instObj C dx) ∧ R (.ok (.ret .notImplemented)) s) :=
  .of_wp fun prog w A R s h => by obtain ⟨hp, g, d, tk, os⟩ := s; obtain ⟨hl, h⟩ := h; wp_walk using wpAny_loadPart' hl, wpAny_load hl; exact ⟨_, rfl, h⟩

theorem rc_refl {prog : Program} {w : World} {A : Around} {E : Value → Shared → Prop} {s : Shared} {K : PySem.W.Frag} {x C f : Addr} {ox : Obj} {od : Option Obj} {b : Value} {T : String} {Q : Value → Shared → Prop} (hu : A.units < cLine) (X : K.In s.heap) (I : PySem.W.InstAt s.heap x ox C od)
    (hb : s.TypeIs b T) (hsub : PySem.W.subIn K (.ref C) (.type T) = some false) (hs : PySem.W.findIn K (.ref C) "__eq__" = some (some (.ref f))) (hf : PySem.W.isFn K (.ref f) = true)
    (hd : ∀ Q' : Option Value → Shared → Prop, Q' none s → wpAny (model prog w) A (tryCompare b "__eq__" (.ref x)) Q' E s)
    (h : wpAny (model prog w) A (call (.ref f) [.ref x, b]) (PySem.W.CmpBack Q) E s) : wpAny (model prog w) A (richCompare .Eq b (.ref x)) Q E s := by
  have one : wpAny (model prog w) A (tryCompare (.ref x) "__eq__" b) (fun r s' => ∃ v, r = some v ∧ Q v s') E s := by
    unfold tryCompare
    refine wpAny_bind (PySem.W.ifBound_K X I hs hf (wpAny_mono h (fun v s' hv => ?_) fun _ _ e => e))
    cases v <;> first | exact hv.elim | exact wpAny_pure ⟨_, rfl, hv⟩
  have ot : oneThing? .Eq b (.ref x) = none := hb.oneThing_none _ _
  have hne : (Value.type T != Value.ref C) = true := rfl
  unfold richCompare
  rw [ot]
  refine wpAny_holding (wpAny_bind (wpAny_cRoomFor hu ?_))
  refine wpAny_bind (wpAny_typeOf hb (wpAny_bind (I.type.here ?_)))
  simp only [hne, if_true]
  refine wpAny_bind ((PySem.W.looks_subIn X hsub).here ?_)
  simp only [cmpInfo, Bool.false_eq_true, if_false, Bool.not_false, if_true]
  refine wpAny_bind (hd _ ?_)
  refine wpAny_bind (wpAny_mono one (fun r s' z => ?_) fun _ _ e => e)
  obtain ⟨v, rfl, hq⟩ := z
  exact wpAny_pure hq

def rOwnR (K : PySem.W.Frag) (C : Addr) (sp : Sp) (E : XK) : R2 := fun x y H Q => ∃ a dx fs, y = .ref a ∧ H a = some (.ins C dx fs) ∧
  ((∃ i, x = .int i) ∧ PySem.W.subIn K (.ref C) (.type "int") = some false ∨ (∃ b, x = .bl b) ∧ PySem.W.subIn K (.ref C) (.type "bool") = some false) ∧ sp [y, x] H Q E
theorem op_eqR (h : HasM X.prog X.w X.K X.mg X.base C "__eq__" k ps sp) (hr : Room j X.A) (hx : Passes (L2.CX X.prog X.w) X E) (hj : k ≤ j := by decide) :
    OpR X (compareOp .Eq) (rOwnR X.K C sp E) := by
  obtain ⟨f, fd, Fo, hm, hb⟩ := h
  intro pins s σ H x y v u Q I rx ry hh
  obtain ⟨a, dx, fs, rfl, ha, hxx, q⟩ := hh
  cases (show u = Value.ref a from ry)
  obtain ⟨mA, O, _⟩ := ins_get I.hok ha
  obtain ⟨od, J, _⟩ := O.look
  have call_ : wpAny (model X.prog X.w) X.A (call (.ref f) [.ref a, v]) (PySem.W.CmpBack (EP X pins σ Q)) X.xe s := by
    refine wpAny_mono (run_fn Fo (hr.mono hj) hb .nil hx I (.cons ry (.cons rx .nil)) q) (fun w s' z => ?_) fun _ _ x => x
    obtain ⟨z', H', I', rz, qz⟩ := z
    exact SlX.cmpback rz ⟨z', H', I', rz, qz⟩
  rcases hxx with ⟨⟨i, rfl⟩, hsub⟩ | ⟨⟨b, rfl⟩, hsub⟩
  · obtain ⟨t, rfl⟩ := (show ∃ t, v = Value.int i t from rx)
    exact rc_refl hr.units0 I.kIn J (typeIs_int s i t) hsub hm.at_ hm.fn (fun Q' hq => wpAny_tryCompare_declines (typeIs_int s i t) F.slot_int_eq
      (call_meets F.slot_int_eq (typeIs_int s i t) F.entry_int_eq (F.args_int_eq_2 _ _) (int_eq_declines_ins_int i t a C dx) ⟨O.obj, rfl, hq⟩)) call_
  · cases (show v = Value.bool b from rx)
    exact rc_refl hr.units0 I.kIn J (show s.TypeIs (.bool b) "bool" from rfl) hsub hm.at_ hm.fn (fun Q' hq => wpAny_tryCompare_declines (show s.TypeIs (.bool b) "bool" from rfl) F.slot_bool_eq
      (call_meets F.slot_bool_eq rfl F.entry_int_eq (F.args_int_eq_2 _ _) (int_eq_declines_ins_bool b a C dx) ⟨O.obj, rfl, hq⟩)) call_

/-! ### -x by x's own def -/
def rOwnU (C : Addr) (sp : Sp) (E : XK) : V → Hp → VK → Prop := fun x H Q => ∃ a dx fs, x = .ref a ∧ H a = some (.ins C dx fs) ∧ sp [x] H Q E
theorem un_own (h : HasM X.prog X.w X.K X.mg X.base C "__neg__" k ps sp) (hr : Room j X.A) (hx : Passes (L2.CX X.prog X.w) X E) (hj : k ≤ j := by decide) :
    UnR X (unaryOp .USub) (rOwnU C sp E) := by
  obtain ⟨f, fd, Fo, hm, hb⟩ := h
  intro pins s σ H x v Q I rx hh
  obtain ⟨a, dx, fs, rfl, ha, q⟩ := hh
  cases (show v = Value.ref a from rx)
  obtain ⟨mA, O, _⟩ := ins_get I.hok ha
  obtain ⟨od, J, _⟩ := O.look
  obtain ⟨m, hF⟩ := I.fr
  exact PySem.W.ksp_neg hF I.ok.mod.kin J hm.at_ hm.fn (run_fn Fo (hr.mono hj) hb .nil hx I (.cons rx .nil) q)

/-! ### math.gcd of three -/
theorem args_gcd3 (a b c : Value) : argsOk "math.gcd" ⟨[a, b, c], []⟩ := by unfold argsOk; kernel_rfl
theorem mg_run_gcd3 (a : Int) (t : Tok) (b : Int) (u : Tok) (c : Int) (w : Tok) :
    Gives (Builtin.«math.gcd» ⟨[.int a t, .int b u, .int c w], []⟩) (.int ((((Nat.gcd 0 a.natAbs).gcd b.natAbs).gcd c.natAbs : Nat) : Int)) :=
  .of_wp fun M A E s Q h => by obtain ⟨hp, g, d, tk, os⟩ := s; wp_walk; exact ⟨_, rfl, h⟩
def rGcd3 : List V → Hp → VK → Prop := fun vs H Q => ∃ a b c : Int, vs = [.int a, .int b, .int c] ∧ Q (.int (((a.natAbs.gcd b.natAbs).gcd c.natAbs : Nat) : Int)) H
theorem cr_gcd3 : CallR X (.builtin "math.gcd") rGcd3 := by
  intro pins s σ H vs us Q I r h
  obtain ⟨a, b, c, rfl, q⟩ := h
  cases r with
  | cons ra r =>
    cases r with
    | cons rb r =>
      cases r with
      | cons rc r =>
        cases r
        obtain ⟨t, rfl⟩ := ra
        obtain ⟨u, rfl⟩ := rb
        obtain ⟨w, rfl⟩ := rc
        have g := mg_run_gcd3 a t b u c w
        rw [Nat.gcd_zero_left] at g
        exact call_function_meets PySem.W.MGF.kind_gcd PySem.W.MGF.plain_gcd PySem.W.MGF.entry_gcd (args_gcd3 _ _ _) g.meets ⟨.int _, H, I.tok _, ⟨_, rfl⟩, q⟩
end
end L2.My

/-! W2: where defs stand, what is known of things, Roots. -/
namespace L2.My
open PySem PySem.Spec PyProof.Rows
/-! ### where a def of the text stands behind the top -/
def AtF (K : PySem.W.Frag) (mg : Str → Option Value) (x qual : Str) (st : Stmt) (ps : List Str) : Prop := ∃ f fd, Fun K x qual st f fd ∧ Binds K fd ps [] ∧ mg x = some (.ref f)
def AtM (K : PySem.W.Frag) (C : Addr) (m qual : Str) (st : Stmt) (ps : List Str) : Prop := ∃ f fd, Fun K m qual st f fd ∧ Binds K fd ps [] ∧ Meth K C m f
def AtC (K : PySem.W.Frag) (mg : Str → Option Value) (x : Str) (C : Addr) (qual : Str) (st : Stmt) (ps : List Str) : Prop := ∃ f fd, Fun K "__init__" qual st f fd ∧ Binds K fd ps [] ∧ Mk K C f ∧ mg x = some (.ref C)
def AtX (K : PySem.W.Frag) (mg : Str → Option Value) (x : Str) (C : Addr) (qual : Str) (st : Stmt) (ps : List Str) : Prop := ∃ f fd, Fun K "__init__" qual st f fd ∧ Binds K fd ps [] ∧ mg x = some (.ref C) ∧
  PySem.W.findIn K (.ref C) "__init__" = some (some (.ref f)) ∧ PySem.W.typeIn K (.ref f) = some (.type "function")
section
variable {P : Program} {w : World} {K : PySem.W.Frag} {mg : Str → Option Value} {base : Heap} {x m qual : Str} {st : Stmt} {N ps : List Str} {k : Nat} {sp : Sp} {C : Addr}
abbrev BodyOk (P : Program) (w : World) (K : PySem.W.Frag) (mg : Str → Option Value) (base : Heap) (N : List Str) (qual : Str) (st : Stmt) (k : Nat) (sp : Sp) (f : Addr) : Prop :=
  ∀ (cdv : Value) (A : Around) (outer : List Env) (s : Shared) (H : Hp) (vs : List V) (Q : VK) (E : XK), Room k (A.deeper (envOfC qual (defScope st) s.heap.objs.size f cdv)) → sp vs H Q E →
    ∃ t, PSs (cxOf (L2.CX P w) P w K mg base N qual (defScope st) f cdv A outer s H E) (defBody st) t ∧ t { nx := fun _ H' => Q .non H', rt := Q } (start N vs) H
theorem AtF.ok (D : AtF K mg x qual st ps) (S : FnScope N ps (defScope st)) (len : ∀ vs H Q E, sp vs H Q E → vs.length = ps.length) (h : ∀ {f : Addr}, BodyOk P w K mg base N qual st k sp f) : Has P w K mg base x (k + 1) ps sp := by
  obtain ⟨f, fd, Fo, b, g⟩ := D
  exact ⟨f, fd, Fo.okX S len h, g, Fo.kp, b⟩
theorem AtM.ok (D : AtM K C m qual st ps) (S : FnScope N ps (defScope st)) (len : ∀ vs H Q E, sp vs H Q E → vs.length = ps.length) (h : ∀ {f : Addr}, BodyOk P w K mg base N qual st k sp f) : HasM P w K mg base C m (k + 1) ps sp := by
  obtain ⟨f, fd, Fo, b, g⟩ := D
  exact ⟨f, fd, Fo.okX S len h, g, b⟩
theorem AtC.ok (D : AtC K mg x C qual st ps) (S : FnScope N ps (defScope st)) (len : ∀ vs H Q E, sp vs H Q E → vs.length = ps.length) (h : ∀ {f : Addr}, BodyOk P w K mg base N qual st k sp f) : HasC P w K mg base x C (k + 1) ps sp := by
  obtain ⟨f, fd, Fo, b, g, h2⟩ := D
  exact ⟨f, fd, Fo.okX S len h, g, h2, b⟩
/-- an own error class that is made -/
def HasX (P : Program) (w : World) (K : PySem.W.Frag) (mg : Str → Option Value) (base : Heap) (x : Str) (C : Addr) (k : Nat) (ps : List Str) (sp : Sp) : Prop :=
  ∃ f fd, FnOk P w K mg base (L2.CX P w) k f fd ps sp ∧ mg x = some (.ref C) ∧ PySem.W.findIn K (.ref C) "__init__" = some (some (.ref f)) ∧ PySem.W.typeIn K (.ref f) = some (.type "function") ∧ Binds K fd ps []
theorem AtX.ok (D : AtX K mg x C qual st ps) (S : FnScope N ps (defScope st)) (len : ∀ vs H Q E, sp vs H Q E → vs.length = ps.length) (h : ∀ {f : Addr}, BodyOk P w K mg base N qual st k sp f) : HasX P w K mg base x C (k + 1) ps sp := by
  obtain ⟨f, fd, Fo, b, g, h2, h3⟩ := D
  exact ⟨f, fd, Fo.okX S len h, g, h2, h3, b⟩
end
/-- making an own error, to be raised -/
theorem pm_h {X : Cx} {x : Str} {C : Addr} {k j : Nat} {ps : List Str} {sp : Sp} {e : Expr} {es : List Expr} {ta : TA} {p pos : Pos} (T : OexC X.K C) (h : HasX X.prog X.w X.K X.mg X.base x C k ps sp) (hr : Room j X.A) (ha : PA X (e :: es) ta) (hj : k + 1 ≤ j := by decide) (hg : Gl X x := by rfl)
    (hdb : (x == ("__debug__" : Str)) = false := by decide) (he : starEach (e :: es) X.env = (false, eval e X.env) :: starEach es X.env := by rfl) (hpl : (backTo pos (starEach es X.env)).any (·.1) = false := by rfl) :
    PMk X (.Call (.Name x p) (e :: es) [] pos) (tMkO C sp [] ta) := by
  obtain ⟨f, fd, Fo, hm, iC, tI, hb⟩ := h
  exact pmk_oex T iC tI Fo (hr.mono hj) hb .nil passL hg hm ha hdb he hpl
/-! ### what is known of things -/
/-- what stands is as it was, but for the object at p -/
def SameX (p : Addr) (H H' : Hp) : Prop := ∀ b o, b ≠ p → H b = some o → H' b = some o
theorem Same.x {p : Addr} {H H' : Hp} (h : Same H H') : SameX p H H' := fun b o _ e => h b o e
theorem SameX.trans {p : Addr} {H H1 H2 : Hp} (a : SameX p H H1) (b : SameX p H1 H2) : SameX p H H2 := fun c o n e => b c o n (a c o n e)
theorem SameX.upd {p : Addr} {H H1 : Hp} {o : HO} (a : SameX p H H1) : SameX p H (upd H1 p o) := fun c u n e => by rw [upd_ne n]; exact a c u n e
theorem Same.new {H : Hp} {p : Addr} {o : HO} (h : H p = none) : Same H (upd H p o) := fun a u e => by rw [upd_ne (ne_of_none e h)]; exact e
def rootF (t r b : Int) : List (Str × V) := [("top", .int t), ("root", .int r), ("bottom", .int b)]
/-- a number as the package keeps it -/
def RootAt (c : Addr) (H : Hp) (v : V) (t r b : Int) : Prop := ∃ a dx, v = .ref a ∧ H a = some (.ins c dx (rootF t r b))
theorem RootAt.same {c : Addr} {H H' : Hp} {v : V} {t r b : Int} (h : RootAt c H v t r b) (s : Same H H') : RootAt c H' v t r b := by
  obtain ⟨a, dx, rfl, e⟩ := h
  exact ⟨a, dx, rfl, s _ _ e⟩
/-- a thing of a kind that is known -/
inductive Th (c : Addr) (H : Hp) : V → Prop
  | non : Th c H .non
  | bl (b : Bool) : Th c H (.bl b)
  | int (i : Int) : Th c H (.int i)
  | str (s : Str) : Th c H (.str s)
  | lst (a : Addr) (xs : List V) (e : H a = some (.lst xs)) : Th c H (.ref a)
  | tup (a : Addr) (xs : List V) (e : H a = some (.tup xs)) : Th c H (.ref a)
  | dK (a : Addr) (kvs : List (Key × V)) (e : H a = some (.dK kvs)) : Th c H (.ref a)
  | root (a dx : Addr) (t r b : Int) (e : H a = some (.ins c dx (rootF t r b))) : Th c H (.ref a)
theorem Th.same {c : Addr} {H H' : Hp} {v : V} (h : Th c H v) (s : Same H H') : Th c H' v := by
  cases h with
  | non => exact .non
  | bl b => exact .bl b
  | int i => exact .int i
  | str s => exact .str s
  | lst a xs e => exact .lst a xs (s _ _ e)
  | tup a xs e => exact .tup a xs (s _ _ e)
  | dK a xs e => exact .dK a xs (s _ _ e)
  | root a dx t r b e => exact .root a dx t r b (s _ _ e)
def isI : V → Bool
  | .int _ => true
  | _ => false
def isB : V → Bool
  | .bl _ => true
  | _ => false
def isC (c : Addr) (H : Hp) : V → Bool
  | .ref a => match H a with
    | some (.ins C _ _) => decide (C = c)
    | _ => false
  | _ => false
/-- what isinstance says of the kinds, for the class at C -/
structure KiT (K : PySem.W.Frag) (c : Addr) : Prop where
  ty : Cls K c
  ha : PySem.W.findIn K (.ref c) "__class__" = some (some (.builtin "object.__class__"))
  hn : PySem.W.specialIn K (.builtin "object.__class__") "__get__" = some (some (.builtin "getset_descriptor.__get__"))
  htk : PySem.W.takesIn K (.builtin "object.__class__") = some true
  hm : PySem.W.mroIn K c (.type "object") = some true
  i : PySem.W.kitOne K (.ref c) (.type "int") = some false
  b : PySem.W.kitOne K (.ref c) (.type "bool") = some false
  cc : PySem.W.kitOne K (.ref c) (.ref c) = some true
  k1 : PySem.W.kitOne K (.type "NoneType") (.ref c) = some false
  k2 : PySem.W.kitOne K (.type "bool") (.ref c) = some false
  k3 : PySem.W.kitOne K (.type "int") (.ref c) = some false
  k4 : PySem.W.kitOne K (.type "str") (.ref c) = some false
  k5 : PySem.W.kitOne K (.type "list") (.ref c) = some false
  k6 : PySem.W.kitOne K (.type "tuple") (.ref c) = some false
  k7 : PySem.W.kitOne K (.type "dict") (.ref c) = some false
  n1 : PySem.W.subIn K (.type "NoneType") (.ref c) = some false
  n2 : PySem.W.subIn K (.type "bool") (.ref c) = some false
  n3 : PySem.W.subIn K (.type "int") (.ref c) = some false
  n4 : PySem.W.subIn K (.type "str") (.ref c) = some false
  n5 : PySem.W.subIn K (.type "list") (.ref c) = some false
  n6 : PySem.W.subIn K (.type "tuple") (.ref c) = some false
  n7 : PySem.W.subIn K (.type "dict") (.ref c) = some false
  s1 : PySem.W.subIn K (.ref c) (.type "int") = some false
  s2 : PySem.W.subIn K (.ref c) (.type "bool") = some false
theorem Th.ty {K : PySem.W.Frag} {c : Addr} {H : Hp} {v : V} (h : Th c H v) (T : KiT K c) : ∃ t, TyX K H v t ∧ PySem.W.kitOne K t (.type "int") = some (isI v || isB v) ∧ PySem.W.kitOne K t (.type "bool") = some (isB v) ∧
    PySem.W.kitOne K t (.ref c) = some (isC c H v) ∧ PySem.W.notFirst K c t = true := by
  have nf : ∀ t, PySem.W.subIn K t (.ref c) = some false → PySem.W.notFirst K c t = true := fun t e => by
    unfold PySem.W.notFirst
    rw [e]
    simp
  have kb : ∀ (a b : String) (r : Bool), kitB a b = some r → PySem.W.kitOne K (.type a) (.type b) = some r := fun _ _ _ h => kit_ty h
  have ib : ∀ {a : Addr} {o : HO} (_ : H a = some o) (_ : ∀ C dx fs, o ≠ .ins C dx fs), isC c H (.ref a) = false := fun {a o} e n => by
    show (match H a with | some (.ins C _ _) => decide (C = c) | _ => false) = false
    rw [e]
    cases o <;> first | rfl | exact absurd rfl (n _ _ _)
  cases h with
  | non => exact ⟨_, .base .non, kb "NoneType" "int" false (by decide +kernel), kb "NoneType" "bool" false (by decide +kernel), T.k1, nf _ T.n1⟩
  | bl b => exact ⟨_, .base (.bl b), kb "bool" "int" true (by decide +kernel), kb "bool" "bool" true (by decide +kernel), T.k2, nf _ T.n2⟩
  | int i => exact ⟨_, .base (.int i), kb "int" "int" true (by decide +kernel), kb "int" "bool" false (by decide +kernel), T.k3, nf _ T.n3⟩
  | str s => exact ⟨_, .base (.str s), kb "str" "int" false (by decide +kernel), kb "str" "bool" false (by decide +kernel), T.k4, nf _ T.n4⟩
  | lst a xs e => exact ⟨_, .base (.lst e), kb "list" "int" false (by decide +kernel), kb "list" "bool" false (by decide +kernel), (by rw [ib e (by intros; intro q; cases q)]; exact T.k5), nf _ T.n5⟩
  | tup a xs e => exact ⟨_, .base (.tup e), kb "tuple" "int" false (by decide +kernel), kb "tuple" "bool" false (by decide +kernel), (by rw [ib e (by intros; intro q; cases q)]; exact T.k6), nf _ T.n6⟩
  | dK a xs e => exact ⟨_, .base (.dK e), kb "dict" "int" false (by decide +kernel), kb "dict" "bool" false (by decide +kernel), (by rw [ib e (by intros; intro q; cases q)]; exact T.k7), nf _ T.n7⟩
  | root a dx t r b e =>
    have ic : isC c H (.ref a) = true := by
      show (match H a with | some (.ins C _ _) => decide (C = c) | _ => false) = true
      rw [e]
      exact decide_eq_true rfl
    exact ⟨_, .base (.ins e T.ty T.ha T.hn T.htk T.hm), T.i, T.b, (by rw [ic]; exact T.cc), (by unfold PySem.W.notFirst; simp)⟩
theorem w_isi {K : PySem.W.Frag} {H : Hp} {x : V} {n : String} {t : Value} {b : Bool} {Q : VK} (ty : TyX K H x t) (k : PySem.W.kitOne K t (.type n) = some b) (q : Q (.bl b) H) : rIsi K [x, .ty n] H Q := ⟨x, .ty n, t, _, b, rfl, .ty n, ty, k, q⟩
theorem w_isiC {K : PySem.W.Frag} {H : Hp} {x : V} {c : Addr} {t : Value} {b : Bool} {Q : VK} (ty : TyX K H x t) (k : PySem.W.kitOne K t (.ref c) = some b) (q : Q (.bl b) H) : rIsi K [x, .ref c] H Q := ⟨x, .ref c, t, _, b, rfl, .own c, ty, k, q⟩

/-! ### more steps -/
section
variable {K : PySem.W.Frag} {σ : St} {H : Hp} {Q : VK} {te : TE} {tl : TA} {a : Addr} {xs : List V} {i : Int} {v : V}
theorem sz1000 {n : Nat} (h : n ≤ 1000) : n ≤ sizeLine := Nat.le_trans h (by decide)
theorem Same.upd_new {H H1 : Hp} {p : Addr} {o : HO} (s : Same H H1) (h : H1 p = none) : Same H (upd H1 p o) := s.trans (Same.new h)
/-- a new tuple, a new list: what is asked -/
def NewT (xs : List V) (H : Hp) (Q : VK) : Prop := xs.length ≤ sizeLine ∧ ∀ p, H p = none → Q (.ref p) (upd H p (.tup xs))
def NewL (xs : List V) (H : Hp) (Q : VK) : Prop := xs.length ≤ sizeLine ∧ ∀ p, H p = none → Q (.ref p) (upd H p (.lst xs))
theorem k_tup (hl : Nat.ble xs.length 1000 = true) (q : ∀ p H2, H p = none → Same H H2 → H2 p = some (.tup xs) → Q (.ref p) H2) : NewT xs H Q :=
  ⟨sz1000 (Nat.le_of_ble_eq_true hl), fun p hp => q p _ hp (Same.new hp) upd_same⟩
theorem k_lst (hl : Nat.ble xs.length 1000 = true) (q : ∀ p H2, H p = none → Same H H2 → H2 p = some (.lst xs) → Q (.ref p) H2) : NewL xs H Q :=
  ⟨sz1000 (Nat.le_of_ble_eq_true hl), fun p hp => q p _ hp (Same.new hp) upd_same⟩
theorem w_tup (q : tl σ H fun xs H1 => NewT xs H1 Q) : tTup tl σ H Q := q
theorem w_lst (q : tl σ H fun xs H1 => NewL xs H1 Q) : tLst tl σ H Q := q
theorem w_ixL (h : H a = some (.lst xs)) (e : atI xs i = some v) (q : Q v H) : rIx K (.ref a) (.int i) H Q := .inl ⟨a, xs, i, v, rfl, rfl, SqL.of h, e, q⟩
theorem w_ixT (h : H a = some (.tup xs)) (e : atI xs i = some v) (q : Q v H) : rIx K (.ref a) (.int i) H Q := .inr (.inl ⟨a, xs, i, v, rfl, rfl, SqT.of h, e, q⟩)
/-- a field of an instance: what is asked -/
def FldP (K : PySem.W.Frag) (f : Str) (x : V) (H : Hp) (Q : VK) : Prop := ∃ a C dx fs v, x = .ref a ∧ H a = some (.ins C dx fs) ∧ Cls K C ∧ NoAttr K C f ∧ fs.lookup f = some v ∧ Q v H
theorem w_fld {C dx : Addr} {fs : List (Str × V)} {f : Str} (h : H a = some (.ins C dx fs)) (hc : Cls K C) (hn : NoAttr K C f) (l : fs.lookup f = some v) (q : Q v H) : FldP K f (.ref a) H Q :=
  ⟨a, C, dx, fs, v, rfl, h, hc, hn, l, q⟩
theorem w_fldE {f : Str} (q : te σ H fun x H1 => FldP K f x H1 Q) : tFld K te f σ H Q := q
/-- a field stored: what is asked -/
def StoP (K : PySem.W.Frag) (f : Str) (y x : V) (H : Hp) (N : Hp → Prop) : Prop := ∃ a C dx fs, x = .ref a ∧ H a = some (.ins C dx fs) ∧ Cls K C ∧ NoAttr K C f ∧ fs.length < 1000 ∧ N (upd H a (.ins C dx (putF f y fs)))
theorem w_sto {C dx : Addr} {fs : List (Str × V)} {f : Str} {N : Hp → Prop} (h : H a = some (.ins C dx fs)) (hc : Cls K C) (hn : NoAttr K C f) (l : Nat.blt fs.length 1000 = true) (q : ∀ H', SameX a H H' → H' a = some (.ins C dx (putF f v fs)) → N H') : StoP K f v (.ref a) H N :=
  ⟨a, C, dx, fs, rfl, h, hc, hn, by simpa using l, q _ (SameX.upd fun _ _ _ e => e) upd_same⟩
theorem w_stoE {f : Str} {tv : TE} {nx bk ct : L2.St → Hp → Prop} {rt : VK} (q : tv σ H fun y H1 => te σ H1 fun x H2 => StoP K f y x H2 fun H3 => nx σ H3) : sFld K te tv f ⟨nx, rt, bk, ct⟩ σ H := q
theorem rf_top (t r b : Int) : (rootF t r b).lookup ("top" : Str) = some (.int t) := by simp [rootF, List.lookup]
theorem rf_root (t r b : Int) : (rootF t r b).lookup ("root" : Str) = some (.int r) := by
  have : (("root" : Str) == "top") = false := by decide +kernel
  simp [rootF, List.lookup, this]
theorem rf_bottom (t r b : Int) : (rootF t r b).lookup ("bottom" : Str) = some (.int b) := by
  have h1 : (("bottom" : Str) == "top") = false := by decide +kernel
  have h2 : (("bottom" : Str) == "root") = false := by decide +kernel
  simp [rootF, List.lookup, h1, h2]
theorem put_root (t r b : Int) : putF "bottom" (.int b) (putF "root" (.int r) (putF "top" (.int t) [])) = rootF t r b := by
  have h1 : ¬ (("top" : Str) = "root") := by decide +kernel
  have h2 : ¬ (("top" : Str) = "bottom") := by decide +kernel
  have h3 : ¬ (("root" : Str) = "bottom") := by decide +kernel
  simp [putF, rootF, h1, h2, h3]
theorem put1 (v : V) : putF "top" v [] = [(("top" : Str), v)] := rfl
theorem put2 (u v : V) : putF "root" v [(("top" : Str), u)] = [(("top" : Str), u), ("root", v)] := by
  have h1 : ¬ (("top" : Str) = "root") := by decide +kernel
  simp [putF, h1]
theorem put3 (t r b : Int) : putF "bottom" (.int b) [(("top" : Str), .int t), ("root", .int r)] = rootF t r b := by
  have h2 : ¬ (("top" : Str) = "bottom") := by decide +kernel
  have h3 : ¬ (("root" : Str) = "bottom") := by decide +kernel
  simp [putF, rootF, h2, h3]
theorem rf_eq {t r b t' r' b' : Int} : rootF t r b = rootF t' r' b' ↔ t = t' ∧ r = r' ∧ b = b' := by simp [rootF]
end
/-! ### loops and comprehensions: the thing that is walked is known -/
section
variable {K : PySem.W.Frag} {σ : St} {H : Hp} {Q : VK} {tl : TE} {ta : TA} {g : TG} {tb : TS} {D : Ends} {p : Addr} {xs : List V} {tt : TT} {te : TE} {ws : List Nat}
def ForT (K : PySem.W.Frag) (g : TG) (tb : TS) (D : Ends) (σ : St) (x : V) (H : Hp) : Prop := tFor (iTup K (tC x)) g tb D σ H
def ForL (K : PySem.W.Frag) (g : TG) (tb : TS) (D : Ends) (σ : St) (x : V) (H : Hp) : Prop := tFor (iList K (tC x)) g tb D σ H
def ForR (g : TG) (tb : TS) (D : Ends) (σ : St) (vs : List V) (H : Hp) : Prop := tFor (iRng1 fun _ H Q => Q vs H) g tb D σ H
def ForR2 (g : TG) (tb : TS) (D : Ends) (σ : St) (vs : List V) (H : Hp) : Prop := tFor (iRng2 fun _ H Q => Q vs H) g tb D σ H
def CompL (K : PySem.W.Frag) (g : TG) (tt : TT) (te : TE) (ws : List Nat) (σ : St) (x : V) (H : Hp) (Q : VK) : Prop := tLc (iList K (tC x)) g tt te ws σ H Q
def CompT (K : PySem.W.Frag) (g : TG) (tt : TT) (te : TE) (ws : List Nat) (σ : St) (x : V) (H : Hp) (Q : VK) : Prop := tLc (iTup K (tC x)) g tt te ws σ H Q
def CompR (g : TG) (tt : TT) (te : TE) (ws : List Nat) (σ : St) (vs : List V) (H : Hp) (Q : VK) : Prop := tLc (iRng1 fun _ H Q => Q vs H) g tt te ws σ H Q
theorem w_forT (q : tl σ H fun x H1 => ForT K g tb D σ x H1) : tFor (iTup K tl) g tb D σ H := q
theorem w_forL (q : tl σ H fun x H1 => ForL K g tb D σ x H1) : tFor (iList K tl) g tb D σ H := q
theorem w_forR (q : ta σ H fun vs H1 => ForR g tb D σ vs H1) : tFor (iRng1 ta) g tb D σ H := q
theorem w_forR2 (q : ta σ H fun vs H1 => ForR2 g tb D σ vs H1) : tFor (iRng2 ta) g tb D σ H := q
theorem w_lcL (q : tl σ H fun x H1 => CompL K g tt te ws σ x H1 Q) : tLc (iList K tl) g tt te ws σ H Q := q
theorem w_lcT (q : tl σ H fun x H1 => CompT K g tt te ws σ x H1 Q) : tLc (iTup K tl) g tt te ws σ H Q := q
theorem w_lcR (q : ta σ H fun vs H1 => CompR g tt te ws σ vs H1 Q) : tLc (iRng1 ta) g tt te ws σ H Q := q
theorem k_forT {nx bk ct : L2.St → Hp → Prop} {rt : VK} (Pv : Nat → St → Hp → Prop) (h : H p = some (.tup xs)) (h0 : Pv 0 σ H) (hl : ∀ i σ H, Pv i σ H → H p = some (.tup xs))
    (hs : ∀ i x σ H, xs[i]? = some x → Pv i σ H → g x σ H fun σ2 H2 => tb ⟨Pv (i + 1), rt, nx, Pv (i + 1)⟩ σ2 H2) (hd : ∀ σ H, Pv xs.length σ H → nx σ H) : ForT K g tb ⟨nx, rt, bk, ct⟩ σ (.ref p) H :=
  ⟨p, rfl, ⟨_, SqT.of h⟩, for_tup (xs := xs) Pv h0 (fun i σ H _ q => SqT.of (hl i σ H q)) hs hd⟩
theorem k_forL {nx bk ct : L2.St → Hp → Prop} {rt : VK} (Pv : Nat → St → Hp → Prop) (h : SqL K H p xs) (h0 : Pv 0 σ H) (hl : ∀ i σ H, Pv i σ H → SqL K H p xs)
    (hs : ∀ i x σ H, xs[i]? = some x → Pv i σ H → g x σ H fun σ2 H2 => tb ⟨Pv (i + 1), rt, nx, Pv (i + 1)⟩ σ2 H2) (hd : ∀ σ H, Pv xs.length σ H → nx σ H) : ForL K g tb ⟨nx, rt, bk, ct⟩ σ (.ref p) H :=
  ⟨p, rfl, ⟨_, h⟩, for_list (xs := xs) Pv h0 (fun i σ H _ q => hl i σ H q) hs hd⟩
theorem k_forR {nx bk ct : L2.St → Hp → Prop} {rt : VK} {n : Int} (Pv : Nat → St → Hp → Prop) (h1 : -(2 ^ 62) ≤ n) (h2 : n < 2 ^ 62) (h0 : Pv 0 σ H)
    (hs : ∀ i σ H, i < n.toNat → Pv i σ H → g (.int (0 + (i : Nat))) σ H fun σ2 H2 => tb ⟨Pv (i + 1), rt, nx, Pv (i + 1)⟩ σ2 H2) (hd : ∀ σ H, Pv n.toNat σ H → nx σ H) : ForR g tb ⟨nx, rt, bk, ct⟩ σ [.int n] H :=
  ⟨n, rfl, h1, h2, for_range (lo := 0) (n := n.toNat) Pv h0 hs hd⟩
theorem k_lcR {n : Int} (Pv : Nat → Addr → Hp → Prop) (h1 : -(2 ^ 62) ≤ n) (h2 : n < 2 ^ 62) (h0 : ∀ D, H D = none → Pv 0 D (upd H D (.lst [])))
    (hs : ∀ i D H, i < n.toNat → Pv i D H → g (.int (0 + (i : Nat))) (wipe σ ws) H fun σ2 H2 => wipe σ2 ws = wipe σ ws ∧ tt σ2 H2 fun b H3 =>
      if b = true then te σ2 H3 fun y H4 => ∃ acc, H4 D = some (.lst acc) ∧ acc.length < sizeLine ∧ Pv (i + 1) D (upd H4 D (.lst (acc ++ [y]))) else Pv (i + 1) D H3) (hd : ∀ D H, Pv n.toNat D H → Q (.ref D) H) : CompR g tt te ws σ [.int n] H Q :=
  ⟨n, rfl, h1, h2, fun D hD => lc_range (lo := 0) (n := n.toNat) (fun i H => Pv i D H) (h0 D hD) (fun i H hi q => hs i D H hi q) (fun H q => hd D H q)⟩
theorem k_lcL (Pv : Nat → Addr → Hp → Prop) (h : SqL K H p xs) (h0 : ∀ D, H D = none → Pv 0 D (upd H D (.lst []))) (hl : ∀ i D H, Pv i D H → SqL K H p xs)
    (hs : ∀ i x D H, xs[i]? = some x → Pv i D H → g x (wipe σ ws) H fun σ2 H2 => wipe σ2 ws = wipe σ ws ∧ tt σ2 H2 fun b H3 =>
      if b = true then te σ2 H3 fun y H4 => ∃ acc, H4 D = some (.lst acc) ∧ acc.length < sizeLine ∧ Pv (i + 1) D (upd H4 D (.lst (acc ++ [y]))) else Pv (i + 1) D H3) (hd : ∀ D H, Pv xs.length D H → Q (.ref D) H) : CompL K g tt te ws σ (.ref p) H Q :=
  ⟨p, rfl, ⟨_, h⟩, fun D hD => lc_list (xs := xs) (fun i H => Pv i D H) (h0 D hD) (fun i H _ q => hl i D H q) (fun i x H hx q => hs i x D H hx q) (fun H q => hd D H q)⟩
end
/-! ### instances made -/
/-- C(..): what is asked -/
def MkC (C : Addr) (sp : Sp) (E : XK) (vs : List V) (H : Hp) (Q : VK) : Prop := ∀ x dx, H x = none → H dx = none → dx ≠ x →
  sp (.ref x :: vs) (upd (upd H dx (.own x)) x (.ins C dx [])) (fun v H2 => v = .non ∧ Q (.ref x) H2) E
theorem w_mkC {C : Addr} {sp : Sp} {E : L2.St → XK} {tl : TA} {σ : L2.St} {H : Hp} {Q : VK} (q : tl σ H fun vs H1 => MkC C sp (E σ) vs H1 Q) : tMakeS C sp E tl σ H Q := q
/-- o.m(..): what is asked of o -/
def MethP (C : Addr) (m : Str) (x : V) (H : Hp) (N : Hp → Prop) : Prop := ∃ a dx fs, x = .ref a ∧ H a = some (.ins C dx fs) ∧ fs.lookup m = none ∧ N H
theorem w_meth {C : Addr} {m : Str} {sp : Sp} {E : L2.St → XK} {ta : TE} {tl : TA} {σ : L2.St} {H : Hp} {Q : VK} (q : ta σ H fun x H1 => MethP C m x H1 fun H2 => tl σ H2 fun vs H3 => sp (x :: vs) H3 Q (E σ)) : tMethS C m sp E ta tl σ H Q := q
theorem k_meth {C a dx : Addr} {m : Str} {fs : List (Str × V)} {H : Hp} {N : Hp → Prop} (h : H a = some (.ins C dx fs)) (l : fs.lookup m = none) (q : N H) : MethP C m (.ref a) H N := ⟨a, dx, fs, rfl, h, l, q⟩
theorem rf_none {t r b : Int} {m : Str} (h1 : (m == ("top" : Str)) = false) (h2 : (m == ("root" : Str)) = false) (h3 : (m == ("bottom" : Str)) = false) : (rootF t r b).lookup m = none := by simp [rootF, List.lookup, h1, h2, h3]
/-! ### own errors with one field -/
def spX (C : Addr) (f : Str) : Sp := fun vs H Q _ => ∃ (a : Addr) (v : V), vs = [.ref a, v] ∧ H a = some (exo a C none) ∧ ∀ d, H d = none → d ≠ a → Q .non (upd (upd H d (exd d [(f, v)])) a (exo a C (some d)))
/-- an own error made: what is asked -/
def MkOP (C : Addr) (sp : Sp) (vs : List V) (H : Hp) (Q : XK) : Prop := vs.length ≤ 1000 ∧ ∀ a, H a = none → sp (.ref a :: (vs ++ [])) (upd H a (exo a C none))
    (fun v H2 => v = .non ∧ ∃ (d : Addr) (fs : List (Str × V)), H2 a = some (exo a C (some d)) ∧ H2 d = some (exd d fs) ∧ H d = none ∧ Q (.ref C) (some d) (upd (del H2 a) d (.xd fs))) (fun _ _ _ => False)
theorem w_mkO {C : Addr} {sp : Sp} {tl : TA} {σ : St} {H : Hp} {Q : XK} (q : tl σ H fun vs H1 => MkOP C sp vs H1 Q) : tMkO C sp [] tl σ H Q := q
theorem k_mkO {C : Addr} {f : Str} {v : V} {H : Hp} {Q : XK} (h : ∀ d H2, H d = none → Same H H2 → H2 d = some (.xd [(f, v)]) → Q (.ref C) (some d) H2) : MkOP C (spX C f) [v] H Q := by
  refine ⟨by simp, fun a ha => ⟨a, v, rfl, upd_same, fun d hd hn => ⟨rfl, d, [(f, v)], upd_same, ?_, ?_, ?_⟩⟩⟩
  · rw [upd_ne hn, upd_same]
  · rw [upd_ne hn] at hd; exact hd
  · have hd' : H d = none := by rw [upd_ne hn] at hd; exact hd
    refine h d _ hd' (fun b o e => ?_) upd_same
    have n1 : b ≠ d := ne_of_none e hd'
    have n2 : b ≠ a := ne_of_none e ha
    rw [upd_ne n1, del_ne n2, upd_ne n2, upd_ne n1, upd_ne n2]
    exact e
end L2.My

/-! W3: built-ins by name, stores into lists, products, the state that laws draw from. -/
namespace L2.My
open PySem PySem.Spec PyProof.Rows
section
variable {X : Cx} {K : PySem.W.Frag} {σ : L2.St} {H : Hp} {Q : VK} {te : TE} {tl : TA} {a p : Addr} {xs : List V} {i j : Int} {v : V}
def rInt : List V → Hp → VK → Prop := fun vs H Q => (∃ i, vs = [.int i] ∧ Q (.int i) H) ∨ ∃ k, vs = [.bl k] ∧ Q (.int (if k then 1 else 0)) H
theorem cn_int : CallR X (.type "int") rInt := call_int1
theorem w_int (q : Q (.int i) H) : rInt [.int i] H Q := .inl ⟨i, rfl, q⟩
theorem w_intB {b : Bool} (q : Q (.int (if b then 1 else 0)) H) : rInt [.bl b] H Q := .inr ⟨b, rfl, q⟩
def rAbs : List V → Hp → VK → Prop := fun vs H Q => ∃ i, vs = [.int i] ∧ Q (.int (if i < 0 then -i else i)) H
theorem cn_abs : CallR X (.builtin "abs") rAbs := call_abs
theorem w_abs (q : Q (.int (i.natAbs : Int)) H) : rAbs [.int i] H Q := ⟨i, rfl, by
  have e : (if i < 0 then -i else i) = (i.natAbs : Int) := by split <;> omega
  rw [e]; exact q⟩
def rLen (K : PySem.W.Frag) : List V → Hp → VK → Prop := fun vs H Q => ∃ x n, vs = [x] ∧ LenV K x H n ∧ Q (.int n) H
theorem cn_len : CallR X (.builtin "len") (rLen X.K) := call_len
theorem w_lenL (h : SqL K H a xs) (q : Q (.int (xs.length : Nat)) H) : rLen K [.ref a] H Q := ⟨_, _, rfl, .inl ⟨_, h, rfl⟩, q⟩
theorem w_lenT (h : SqT K H a xs) (q : Q (.int (xs.length : Nat)) H) : rLen K [.ref a] H Q := ⟨_, _, rfl, .inr ⟨_, h, rfl⟩, q⟩
def rListOf (K : PySem.W.Frag) : List V → Hp → VK → Prop := fun vs H Q => ∃ p ys, vs = [.ref p] ∧ (SqL K H p ys ∨ SqT K H p ys) ∧ ∀ l, H l = none → Q (.ref l) (upd H l (.lst ys))
theorem cn_list : CallR X (.type "list") (rListOf X.K) := call_list_of
theorem w_listL (h : SqL K H a xs) (q : ∀ l H2, H l = none → Same H H2 → H2 l = some (.lst xs) → Q (.ref l) H2) : rListOf K [.ref a] H Q := ⟨a, xs, rfl, .inl h, fun l hl => q l _ hl (Same.new hl) upd_same⟩
theorem w_listT (h : SqT K H a xs) (q : ∀ l H2, H l = none → Same H H2 → H2 l = some (.lst xs) → Q (.ref l) H2) : rListOf K [.ref a] H Q := ⟨a, xs, rfl, .inr h, fun l hl => q l _ hl (Same.new hl) upd_same⟩
def NewD (H : Hp) (Q : VK) : Prop := ∀ p, H p = none → Q (.ref p) (upd H p (.dK []))
theorem w_dnew (q : NewD H Q) : tDNewK σ H Q := q
theorem k_dnew (q : ∀ p H2, H p = none → Same H H2 → H2 p = some (.dK []) → Q (.ref p) H2) : NewD H Q := fun p hp => q p _ hp (Same.new hp) upd_same
/-- a slice of a list -/
def SlP (r : V → Option Int → Option Int → Hp → VK → Prop) (x : V) (lo hi : Option Int) (H : Hp) (Q : VK) : Prop := r x lo hi H Q
theorem w_sl {r : V → Option Int → Option Int → Hp → VK → Prop} {t1 t2 : TO} (q : te σ H fun x H1 => t1 σ H1 fun l H2 => t2 σ H2 fun u H3 => SlP r x l u H3 Q) : tSl r te t1 t2 σ H Q := q
theorem k_slL {lo hi : Option Int} (h : SqL K H a xs) (q : ∀ l H2, H l = none → Same H H2 → H2 l = some (.lst (cutV xs lo hi)) → Q (.ref l) H2) : SlP (rSlL K) (.ref a) lo hi H Q := ⟨a, xs, rfl, h, fun l hl => q l _ hl (Same.new hl) upd_same⟩
theorem w_poN {QO : Option Int → Hp → Prop} (q : QO none H) : tNoPart σ H QO := q
theorem w_poS {QO : Option Int → Hp → Prop} (q : te σ H fun x H1 => ∃ i, x = .int i ∧ QO (some i) H1) : tPart te σ H QO := q
theorem w_exI {p : Int → Prop} (q : p i) : ∃ k, V.int i = .int k ∧ p k := ⟨i, rfl, q⟩
/-- xs[i] = v -/
theorem w_gsub {to ti : TE} {t : TSet} {N : L2.St → Hp → Prop} (q : to σ H fun o H1 => ti σ H1 fun i H2 => t o i v H2 fun H3 => N σ H3) : gSub to ti t v σ H N := q
theorem w_setL {N : Hp → Prop} {n : Nat} (h : H a = some (.lst xs)) (e : ixN xs.length i = some n) (q : ∀ H2, SameX a H H2 → H2 a = some (.lst (xs.set n v)) → N H2) : rSetL (.ref a) (.int i) v H N :=
  ⟨a, xs, i, n, rfl, rfl, h, e, q _ (SameX.upd fun _ _ _ e => e) upd_same⟩
theorem w_yes {QB : Bool → Hp → Prop} (q : QB true H) : tYes σ H QB := q
/-- ways meet behind a statement -/
theorem w_cut {ts us : TS} {nx bk ct : L2.St → Hp → Prop} {rt : VK} (Mid : L2.St → Hp → Prop) (h : ts ⟨Mid, rt, bk, ct⟩ σ H) (q : ∀ σ' H', Mid σ' H' → us ⟨nx, rt, bk, ct⟩ σ' H') : C8.tCut ts us ⟨nx, rt, bk, ct⟩ σ H := ⟨Mid, h, q⟩
theorem w_cutE {ts us : TS} {nx bk ct : L2.St → Hp → Prop} {rt : VK} {σ' : L2.St} {H' : Hp} (h : ts ⟨fun σ1 H1 => σ1 = σ' ∧ H1 = H', rt, bk, ct⟩ σ H) (q : us ⟨nx, rt, bk, ct⟩ σ' H') : C8.tCut ts us ⟨nx, rt, bk, ct⟩ σ H := ⟨_, h, fun _ _ e => by rw [e.1, e.2]; exact q⟩
/-- products: one factor is small, or both together are not too large -/
def CMulS (i j : Int) : Prop := (-18446744073709551616 < i ∧ i < 18446744073709551616) ∨ (-18446744073709551616 < j ∧ j < 18446744073709551616) ∨ CMulW i j
theorem op_mulS : OpR X (binaryOp .Mult) (rI CMulS fun i j => .int (i * j)) := opI fun _ _ _ _ _ _ _ hc q => by
  rcases hc with h | h | h
  · exact mul_int q (CMul.ok (.inl h))
  · exact mul_int q (CMul.ok (.inr h))
  · exact mul_int q h.ok
theorem atI_ints {ns : List Int} {k : Int} (h0 : 0 ≤ k) (h1 : k < (ns.length : Int)) : ∃ z, atI (ns.map V.int) k = some (.int z) := by
  obtain ⟨n, rfl⟩ := Int.eq_ofNat_of_zero_le h0
  have hn : n < ns.length := by omega
  exact ⟨ns[n], atI_nat (by simp [hn])⟩
theorem cut_ints (ns : List Int) (lo hi : Option Int) : ∃ ms : List Int, cutV (ns.map V.int) lo hi = ms.map V.int := by
  unfold cutV
  exact ⟨((ns.drop (HT.sIx (ns.map V.int).length 0 lo)).take (HT.sIx (ns.map V.int).length (ns.map V.int).length hi - HT.sIx (ns.map V.int).length 0 lo)), by rw [List.map_take, List.map_drop]⟩
/-- a number that is not too great; omega doesn't see into it -/
def Bd (x : Int) : Prop := x.natAbs < 2 ^ 8000
/-! ### data compared -/
theorem dp_ints : ∀ ns : List Int, DpAll K H (ns.map V.int) (ns.map PyData.int)
  | [] => .nil
  | n :: ns => .cons (.int n) (dp_ints ns)
theorem can_ints : ∀ ns : List Int, PyData.canLayAll0 (ns.map PyData.int) = true
  | [] => rfl
  | n :: ns => by simp only [List.map_cons, PyData.canLayAll0, PyData.canLay0, can_ints ns, Bool.and_self]
theorem depth_ints : ∀ ns : List Int, PyData.depthAll (ns.map PyData.int) = 0
  | [] => rfl
  | n :: ns => by simp only [List.map_cons, PyData.depthAll, PyData.depth, depth_ints ns]; rfl
theorem eqv_ints : ∀ ns ms : List Int, PyData.eqvAll (ns.map PyData.int) (ms.map PyData.int) = decide (ns = ms)
  | [], [] => rfl
  | [], _ :: _ => rfl
  | _ :: _, [] => rfl
  | n :: ns, m :: ms => by
    simp only [List.map_cons, PyData.eqvAll, PyData.eqv, eqv_ints ns ms, List.cons.injEq, Bool.decide_and]
    rfl
theorem shaped_ints (ns : List Int) : SeqAt.shaped (.tuple (ns.map PyData.int)) = true := by
  simp only [SeqAt.shaped, PyData.canLay0, can_ints, PyData.depth, depth_ints]; decide
theorem w_eqT {b : Addr} {ns ms : List Int} (h1 : H a = some (.tup (ns.map V.int))) (h2 : H b = some (.tup (ms.map V.int))) (q : Q (.bl (decide (ns = ms))) H) : rEqD K (.ref a) (.ref b) H Q :=
  ⟨.tuple (ns.map .int), .tuple (ms.map .int), .tup (SqT.of h1) (dp_ints ns), .tup (SqT.of h2) (dp_ints ms), shaped_ints _, shaped_ints _, by rw [PyData.eqv, eqv_ints]; exact q⟩
/-- == of plain things: data of any depth, dicts -/
def rEqU (K : PySem.W.Frag) : R2 := fun x y H Q => rEqD K x y H Q ∨ rEqDA x y H Q
theorem op_eqU (hu : X.A.units + 64 < cLine) : OpR X (compareOp .Eq) (rEqU X.K) := (op_eqD hu).or (op_eq_dictA (by omega))
/-- a thing that == finds equal to itself -/
inductive Selfy (H : Hp) : V → Prop
  | non : Selfy H .non
  | int (i : Int) : Selfy H (.int i)
  | str (s : Str) (h : SeqAt.shaped (.str s) = true) : Selfy H (.str s)
  | lst (a : Addr) (ns : List Int) (e : H a = some (.lst (ns.map V.int))) : Selfy H (.ref a)
  | tup (a : Addr) (ns : List Int) (e : H a = some (.tup (ns.map V.int))) : Selfy H (.ref a)
  | dK (a : Addr) (e : H a = some (.dK [])) : Selfy H (.ref a)
theorem shaped_intsL (ns : List Int) : SeqAt.shaped (.list (ns.map PyData.int)) = true := by
  simp only [SeqAt.shaped, PyData.canLay0, can_ints, PyData.depth, depth_ints]; decide
theorem w_eqSelf (h : Selfy H v) (q : Q (.bl true) H) : rEqU K v v H Q := by
  have go : ∀ d, Dp K H v d → SeqAt.shaped d = true → rEqU K v v H Q := fun d hd sd => .inl ⟨d, d, hd, hd, sd, sd, by rw [SeqAt.eqv_refl d (SeqAt.canLay_of_shaped sd)]; exact q⟩
  cases h with
  | non => exact go _ .non (by decide +kernel)
  | int i => exact go _ (.int i) rfl
  | str s h => exact go _ (.str s) h
  | lst a ns e => exact go _ (.lst (SqL.of e) (dp_ints ns)) (shaped_intsL ns)
  | tup a ns e => exact go _ (.tup (SqT.of e) (dp_ints ns)) (shaped_ints ns)
  | dK a e => exact .inr ⟨a, a, [], [], rfl, rfl, e, e, rfl, (fun _ h => nomatch h), q⟩
/-- a thing of the law's own: a kind that is known, and if it is no int, one that is found equal to itself -/
structure Odd (c : Addr) (H : Hp) (v : V) : Prop where
  th : Th c H v
  eq : isI v = false → (∃ b, v = .bl b) ∨ isB v = false ∧ Selfy H v
theorem Odd.sx {c p : Addr} {H H' : Hp} (h : Odd c H v) (h3 : ∀ a, v = .ref a → a ≠ p) (s : SameX p H H') : Odd c H' v := by
  obtain ⟨h1, h2⟩ := h
  refine ⟨?_, fun z => ?_⟩
  · cases h1 with
    | non => exact .non
    | bl b => exact .bl b
    | int i => exact .int i
    | str s => exact .str s
    | lst a xs e => exact .lst a xs (s _ _ (h3 a rfl) e)
    | tup a xs e => exact .tup a xs (s _ _ (h3 a rfl) e)
    | dK a xs e => exact .dK a xs (s _ _ (h3 a rfl) e)
    | root a dx t r b e => exact .root a dx t r b (s _ _ (h3 a rfl) e)
  · rcases h2 z with h | ⟨hb, h⟩
    · exact .inl h
    · refine .inr ⟨hb, ?_⟩
      cases h with
      | non => exact .non
      | int i => exact .int i
      | str s h => exact .str s h
      | lst a ns e => exact .lst a ns (s _ _ (h3 a rfl) e)
      | tup a ns e => exact .tup a ns (s _ _ (h3 a rfl) e)
      | dK a e => exact .dK a (s _ _ (h3 a rfl) e)
theorem Odd.int {c : Addr} (i : Int) : Odd c H (.int i) := ⟨.int i, fun e => by cases e⟩
theorem w_Tself {α : Type} [DecidableEq α] {x : α} {A B : Prop} (q : A) : if decide (x = x) = true then A else B := by rw [decide_eq_true rfl]; exact iteT q
theorem w_Fself {α : Type} [DecidableEq α] {x : α} {A B : Prop} (q : B) : if (!decide (x = x)) = true then A else B := by rw [decide_eq_true rfl]; exact iteF q
theorem w_isB {b c : Bool} (q : Q (.bl (decide (b = c))) H) : rIsB (.bl b) (.bl c) H Q := ⟨b, c, rfl, rfl, q⟩
/-- the state that a law draws from stands at p, its cells at q -/
def StA (H : Hp) (p q : Addr) : Prop := ∃ (ns : List Int) (at_ pend : Int), H p = some (.lst [.ref q, .int at_, .int pend]) ∧ H q = some (.lst (ns.map V.int)) ∧ q ≠ p ∧ 0 ≤ at_ ∧ 0 ≤ pend
theorem StA.same {H H' : Hp} {p q : Addr} (h : StA H p q) (s : Same H H') : StA H' p q := by
  obtain ⟨ns, at_, pend, h1, h2, h3⟩ := h
  exact ⟨ns, at_, pend, s _ _ h1, s _ _ h2, h3⟩
theorem sz_lt {n : Nat} (h : n < 1000) : n < sizeLine := Nat.lt_of_lt_of_le h (by decide)
/-- a new object is another one -/
theorem StA.new {H : Hp} {p q b : Addr} (h : StA H p q) (e : H b = none) : b ≠ p ∧ b ≠ q := by
  obtain ⟨ns, at_, pend, h1, h2, _⟩ := h
  exact ⟨fun z => (by rw [z, h1] at e; cases e), fun z => (by rw [z, h2] at e; cases e)⟩
/-- a change elsewhere -/
theorem StA.other {H : Hp} {p q b : Addr} {o : HO} (h : StA H p q) (n : b ≠ p ∧ b ≠ q) : StA (upd H b o) p q := by
  obtain ⟨ns, at_, pend, h1, h2, h3⟩ := h
  exact ⟨ns, at_, pend, by rw [upd_ne (Ne.symm n.1)]; exact h1, by rw [upd_ne (Ne.symm n.2)]; exact h2, h3⟩
theorem StA.otherX {H H' : Hp} {p q b : Addr} (h : StA H p q) (n : b ≠ p ∧ b ≠ q) (s : SameX b H H') : StA H' p q := by
  obtain ⟨ns, at_, pend, h1, h2, h3⟩ := h
  exact ⟨ns, at_, pend, s _ _ (Ne.symm n.1) h1, s _ _ (Ne.symm n.2) h2, h3⟩
/-- another object than the state -/
theorem StA.ne {H : Hp} {p q b : Addr} {o : HO} (h : StA H p q) (e : H b = some o) (n : ∀ xs, o ≠ .lst xs) : b ≠ p := by
  obtain ⟨ns, at_, pend, h1, _⟩ := h
  exact ne_of e h1 (n _)
/-- a comprehension over a range whose turns draw: ints of which P holds -/
theorem k_lcDraw {st sc : Addr} {n : Int} {ws : List Nat} {slot : Nat} {te : TE} {P : Int → Prop} (h1 : -(2 ^ 62) ≤ n) (h2 : n ≤ 500) (hs : StA H st sc)
    (hw : ∀ z, wipe ((wipe σ ws).set slot (some (.int z))) ws = wipe σ ws)
    (turn : ∀ z H', StA H' st sc → SameX st H H' → ∀ N : VK, (∀ y H2, P y → SameX st H' H2 → StA H2 st sc → N (.int y) H2) → te ((wipe σ ws).set slot (some (.int z))) H' N)
    (hd : ∀ (D : Addr) (H' : Hp) (ms : List Int), H' D = some (.lst (ms.map V.int)) → ms.length = n.toNat → (∀ z ∈ ms, P z) → D ≠ st ∧ D ≠ sc → StA H' st sc → SameX st H H' → Q (.ref D) H') : CompR (gName slot) tYes te ws σ [.int n] H Q := by
  refine k_lcR (fun i D H' => H D = none ∧ ∃ ms : List Int, H' D = some (.lst (ms.map V.int)) ∧ ms.length = i ∧ (∀ z ∈ ms, P z) ∧ (D ≠ st ∧ D ≠ sc) ∧ StA H' st sc ∧ SameX st H H') h1 (by omega) (fun D hD => ⟨hD, [], upd_same, rfl, (fun _ h => nomatch h), hs.new hD, hs.same (Same.new hD), Same.x (Same.new hD)⟩) ?_ ?_
  · rintro i D H' hi ⟨hD, ms, e1, e2, e3, e4, e5, e6⟩
    refine ⟨hw _, ?_⟩
    refine w_yes (w_T rfl ?_)
    refine turn _ H' e5 e6 _ fun y H2 py s2 st2 => ?_
    refine ⟨_, s2 _ _ e4.1 e1, by rw [List.length_map, e2]; exact sz_lt (by omega), hD, ms ++ [y], by rw [List.map_append]; exact upd_same, by rw [List.length_append, e2]; rfl, ?_, e4, st2.other e4, fun b o nb e => ?_⟩
    · intro m hm
      rcases List.mem_append.mp hm with h | h
      · exact e3 m h
      · obtain rfl : m = y := by simpa using h
        exact py
    · rw [upd_ne (ne_of_none e hD)]
      exact s2 _ _ nb (e6 _ _ nb e)
  · rintro D H' ⟨hD, ms, e1, e2, e3, e4, e5, e6⟩
    exact hd D H' ms e1 e2 e3 e4 e5 e6
/-- a comprehension over a list of ints, without draws: ints again -/
theorem k_lcInts {p : Addr} {ns : List Int} {ws : List Nat} {slot : Nat} {te : TE} {f : Int → Int} (h : SqL K H p (ns.map V.int)) (hl : ns.length ≤ 500)
    (hw : ∀ z, wipe ((wipe σ ws).set slot (some (.int z))) ws = wipe σ ws) (hsame : ∀ H', Same H H' → SqL K H' p (ns.map V.int))
    (turn : ∀ z H', z ∈ ns → Same H H' → ∀ N : VK, N (.int (f z)) H' → te ((wipe σ ws).set slot (some (.int z))) H' N)
    (hd : ∀ D H', H D = none → Same H H' → H' D = some (.lst ((ns.map f).map V.int)) → Q (.ref D) H') : CompL K (gName slot) tYes te ws σ (.ref p) H Q := by
  refine k_lcL (xs := ns.map V.int) (fun i D H' => H D = none ∧ Same H H' ∧ H' D = some (.lst (((ns.take i).map f).map V.int))) h (fun D hD => ⟨hD, Same.new hD, upd_same⟩) (fun i D H' e => hsame H' e.2.1) ?_ ?_
  · rintro i x D H' hx ⟨hD, s1, e1⟩
    have hi : i < ns.length := by
      have := (List.getElem?_eq_some_iff.mp hx).1
      rwa [List.length_map] at this
    obtain rfl : x = V.int ns[i] := by
      rw [List.getElem?_map, List.getElem?_eq_getElem hi] at hx
      exact (Option.some.inj hx).symm
    refine ⟨hw _, ?_⟩
    refine w_yes (w_T rfl ?_)
    refine turn _ H' (List.getElem_mem hi) s1 _ ?_
    refine ⟨_, e1, by rw [List.length_map, List.length_map, List.length_take]; exact sz_lt (by omega), hD, fun b o e => ?_, ?_⟩
    · rw [upd_ne (ne_of_none e hD)]
      exact s1 b o e
    · have e : ns.take (i + 1) = ns.take i ++ [ns[i]] := by rw [List.take_add_one, List.getElem?_eq_getElem hi]; rfl
      rw [upd_same, e, List.map_append, List.map_append]
      rfl
  · rintro D H' ⟨hD, s1, e1⟩
    rw [List.length_map, List.take_length] at e1
    exact hd D H' hD s1 e1
end
end L2.My

/-! W4: isinstance of a caught own error that bears a field. -/
namespace PySem.W
open PySem PySem.Spec PySem.Calls PyProof.Rows
section
variable {prog : Program} {w : World} {A : Around} {E : Value → Shared → Prop} {s : Shared} {K : Frag} {x D : Addr} {ox od : Obj}
/-- what the class of such an error says -/
structure XiC (K : Frag) (D : Addr) : Prop where
  hga : findIn K (.ref D) "__getattribute__" = some (some (.builtin "BaseException.__getattribute__"))
  hgt : findIn K (.ref D) "__getattr__" = some none
  hsub : subIn K (.ref D) (.type "BaseException") = some true
  hdct : hasDictIn K D = true
  ha : findIn K (.ref D) "__class__" = some (some (.builtin "object.__class__"))
  hn : specialIn K (.builtin "object.__class__") "__get__" = some (some (.builtin "getset_descriptor.__get__"))
  htk : takesIn K (.builtin "object.__class__") = some true
  hm : mroIn K D (.type "object") = some true
theorem xi_class {Q : Option Value → Shared → Prop} (T : XiC K D) (X : K.In s.heap) (I : InstAt s.heap x ox D (some od)) (h : Q (some (.ref D)) { s with toks := s.toks + 1 }) : wpAny (model prog w) A (getAttr? (.ref x) "__class__") Q E s := by
  have fnd : findObj K D (some od) "__class__" = some (.bind (.builtin "getset_descriptor.__get__") (.builtin "object.__class__")) := findObj_data (by obtain ⟨cd, hc, _⟩ := any_some T.hdct; rw [hc]; rfl) T.ha T.hn T.htk
  obtain ⟨hp, g, d, t, os⟩ := s
  have l0 := I.type (M := model prog w)
  have l1 := looks_findIn (M := model prog w) X T.hga
  have l2 := looks_findIn (M := model prog w) X T.hgt
  have l3 := looks_find (M := model prog w) X I fnd
  have sb : Looks (model prog w) hp (isInstance (.ref x) (.type "BaseException")) true := l0.andThen (looks_subIn X T.hsub)
  have n0 : (false && onTheHeap (Value.builtin "BaseException.__getattribute__")) = false := rfl
  have n2 : (Value.builtin "BaseException.__getattribute__" == Value.builtin "object.__getattribute__") = false := by decide +kernel
  have n1 : (onTheHeap (Value.ref D) && Value.builtin "BaseException.__getattribute__" == Value.builtin "object.__getattribute__") = false := by rw [n2]; rfl
  unfold getAttr? getAttrBy? getAttrBy
  refine wpAny_bind (wpAny_mkText (wpAny_bind (wpAny_attempt (wpAny_holding (wpAny_bind (l0.at (wpAny_bind (l1.at ?_))))))))
  dsimp only
  rw [n1, if_neg Bool.false_ne_true]
  unfold getAttrByItsOwn hookBefore
  refine wpAny_bind ?_
  rw [if_pos (show onTheHeap (Value.ref D) = true from rfl)]
  refine l2.at (wpAny_bind (wpAny_attempt (wpAny_holding ?_)))
  unfold callGetattribute
  rw [n0, if_neg Bool.false_ne_true]
  unfold boundAndCalled
  rw [PySem.F.excAttr_ValueError.ga.bind (.ref x)]
  refine wpAny_bind (wpAny_pure ?_)
  show wpAny _ _ (call (.builtin "BaseException.__getattribute__") [.ref x, .str "__class__" t]) _ _ _
  refine wpAny_call (codeAny_call_builtin PySem.F.excAttr_ValueError.ga.plain PySem.F.entry_bexc_ga ?_)
  refine @check_slot (model prog w) _ _ ⟨hp, g, d, t + 1, os⟩ "BaseException.__getattribute__" "BaseException" "__getattribute__" (.ref x) [.str "__class__" t] [] _ (by decide +kernel) (by decide +kernel) sb (PySem.F.args_bexc_ga (.ref x) (.str "__class__" t)) ?_
  unfold Builtin.«object.__getattribute__»
  refine wpAny_bind (wpAny_of_eq (a := ((Value.ref x : Value), [Value.str "__class__" t])) (by first | rfl | (simp only [slotArgs]; rfl)) ?_)
  refine wpAny_bind (wpAny_pure (wpAny_bind (l0.at (wpAny_bind (l3.at ?_)))))
  show wpAny _ _ (holding [Value.builtin "object.__class__"] (call (.builtin "getset_descriptor.__get__") [.builtin "object.__class__", .ref x, .ref D]) >>= ret) _ _ _
  refine wpAny_bind (wpAny_holding (wpAny_call (class_get (s := ⟨hp, g, d, t + 1, os⟩) (ox := ox) (od := some od) X I T.hm ?_)))
  refine wpAny_pure ?_
  show wpAny _ _ (handedOut (.ref D)) _ _ _
  rw [handedOut_of (v := .ref D) rfl]
  first
    | exact wpAny_pure (wpAny_pure h)
    | exact wpAny_pure h
    | exact wpAny_pure (wpAny_bind (wpAny_pure (wpAny_pure h)))
theorem xi_kitx (T : XiC K D) : KitX K (.ref x) (.ref D) (fun h => ∃ ox od, InstAt h x ox D (some od)) where
  ty := fun _ _ _ ⟨_, _, I⟩ => I.type
  it := fun _ _ X _ => by
    obtain ⟨cdD, hcD, _⟩ := any_some T.hdct
    unfold clsIn at hcD
    split at hcD
    · rename_i c' d' cd' sl' ho
      intro A' Q' E' s' k q
      unfold isType loadHead
      exact wpAny_bind (wpAny_loadPart (k _ _ (X _ _ ho)) (wpAny_pure q))
    · cases hcD
  ne := fun h tp dd its n sl X htp => by
    obtain ⟨cdD, hcD, _⟩ := any_some T.hdct
    refine Bool.eq_false_iff.mpr fun q => ?_
    have e : D = tp := Value.ref.inj (beq_iff_eq.mp q)
    subst e
    unfold clsIn at hcD
    split at hcD
    · rename_i c' d' cd' sl' ho
      have z := (X _ _ ho).symm.trans htp
      cases z
    · cases hcD
  ca := fun X ⟨_, _, I⟩ k => xi_class T X I k
end
end PySem.W
namespace L2.My
open PySem PySem.Spec PyProof.Rows
/-- isinstance(e, c), e the own error that the suite holds -/
def rIsX (K : PySem.W.Frag) (D a : Addr) (cls : Value) (d : Option Addr) : List V → Hp → VK → Prop := fun xs H Q => ∃ (c : V) (cv : Value) (b : Bool) (dd : Addr) (fs : List (Str × V)), xs = [.ref a, c] ∧ cls = .ref D ∧ d = some dd ∧ H dd = some (.xd fs) ∧
  (∀ u, RelV c u → u = cv) ∧ PySem.W.kitOne K (.ref D) cv = some b ∧ Q (.bl b) H
theorem cn_isX {X : Cx} {a D : Addr} {cls : Value} {d : Option Addr} {oe : Obj} {pn : List (Addr × Obj)} (T : PySem.W.XiC X.K D) (hz : Zc cls d oe) (hf : ∃ vs, oe.data = .fields vs) : CallR (X.suite a ((a, oe) :: pn)) (.builtin "isinstance") (rIsX X.K D a cls d) := by
  intro pins s σ H xs us Q I r h
  obtain ⟨c, cv, b, dd, fs, rfl, rfl, rfl, ea, hcv, e, q⟩ := h
  obtain ⟨u1, u2, rfl, r1, r2⟩ := vals2 r
  cases (show u1 = Value.ref a from r1)
  have ec := hcv _ r2
  subst ec
  obtain ⟨hget, _⟩ := I.pin (a, oe) (List.mem_append_left _ List.mem_cons_self)
  obtain ⟨vs, hd⟩ := hf
  obtain ⟨mA, hns, hr⟩ := (show ObjOk X.prog X.w H s.heap dd (.xd fs) from I.hok dd _ ea)
  obtain ⟨od, ho, hl⟩ := lookIn_ns hns
  have J : PySem.W.InstAt s.heap a oe D (some od) := ⟨hget, hz.1, by unfold PySem.W.notCls; rw [hd] <;> rfl, by rw [hz.2]; exact ho⟩
  exact PySem.W.kia_one (PySem.W.xi_kitx T) I.kIn ⟨oe, od, J⟩ e (fun z => nomatch z) fun tk => ⟨.bl b, H, I.tok tk, rfl, q⟩
theorem w_isX {K : PySem.W.Frag} {D a : Addr} {d : Addr} {fs : List (Str × V)} {H : Hp} {Q : VK} {b : Bool} {C : Addr} (h : H d = some (.xd fs)) (k : PySem.W.kitOne K (.ref D) (.ref C) = some b) (q : Q (.bl b) H) : rIsX K D a (.ref D) (some d) [.ref a, .ref C] H Q :=
  ⟨.ref C, .ref C, b, d, fs, rfl, rfl, rfl, h, fun u r => r, k, q⟩
theorem w_isXT {K : PySem.W.Frag} {D a : Addr} {d : Addr} {fs : List (Str × V)} {H : Hp} {Q : VK} {b : Bool} {n : String} (h : H d = some (.xd fs)) (k : PySem.W.kitOne K (.ref D) (.type n) = some b) (q : Q (.bl b) H) : rIsX K D a (.ref D) (some d) [.ref a, .ty n] H Q :=
  ⟨.ty n, .type n, b, d, fs, rfl, rfl, rfl, h, fun u r => r, k, q⟩
/-- e.f in the suite: what is asked -/
def XfP (a : Addr) (cls : Value) (d : Option Addr) (C : Addr) (f : Str) (x : V) (H : Hp) (Q : VK) : Prop := x = .ref a ∧ cls = .ref C ∧ ∃ (dd : Addr) (fs : List (Str × V)) (v : V), d = some dd ∧ H dd = some (.xd fs) ∧ fs.lookup f = some v ∧ Q v H
theorem w_xf {a : Addr} {cls : Value} {d : Option Addr} {C : Addr} {f : Str} {te : TE} {σ : L2.St} {H : Hp} {Q : VK} (q : te σ H fun x H1 => XfP a cls d C f x H1 Q) : tXf a cls d C f te σ H Q := q
theorem k_xf {a d C : Addr} {f : Str} {v : V} {H : Hp} {Q : VK} (h : H d = some (.xd [(f, v)])) (q : Q v H) : XfP a (.ref C) (some d) C f (.ref a) H Q := ⟨rfl, rfl, d, _, v, rfl, h, by simp [List.lookup], q⟩
end L2.My

/-! W5: from what the head tells to what the walks ask. -/
namespace L2.My
open PySem PySem.Spec PyProof.Rows
theorem kit_eq {K : PySem.W.Frag} {t : Value} {C : Addr} (ic : PySem.W.isClsIn K C = true) (tc : PySem.W.typeIn K (.ref C) = some (.type "type")) : PySem.W.kitCls K t (.ref C) = PySem.W.subIn K t (.ref C) := by
  have e : ((PySem.W.clsIn K C).isSome && PySem.W.typeIn K (.ref C) == some (.type "type")) = true := by
    have h2' : (PySem.W.clsIn K C).isSome = true := ic
    rw [h2', tc] <;> rfl
  show (if ((PySem.W.clsIn K C).isSome && PySem.W.typeIn K (.ref C) == some (.type "type")) = true then PySem.W.subIn K t (.ref C) else none) = _
  rw [if_pos e]
theorem kit_ref {K : PySem.W.Frag} {t : Value} {C : Addr} (ic : PySem.W.isClsIn K C = true) (tc : PySem.W.typeIn K (.ref C) = some (.type "type")) (h : PySem.W.subIn K t (.ref C) = some true) : PySem.W.kitOne K t (.ref C) = some true := by
  unfold PySem.W.kitOne
  rw [kit_eq ic tc, h]
  split <;> rfl
theorem kit_ref0 {K : PySem.W.Frag} {t : Value} {C : Addr} (ic : PySem.W.isClsIn K C = true) (tc : PySem.W.typeIn K (.ref C) = some (.type "type")) (h : PySem.W.subIn K t (.ref C) = some false) (hn : (t == .ref C) = false) : PySem.W.kitOne K t (.ref C) = some false := by
  unfold PySem.W.kitOne
  rw [kit_eq ic tc, h, hn]
  rfl
theorem kit_type {K : PySem.W.Frag} {C : Addr} {T : String} {b : Bool} (km : PySem.W.kitMeta T = true) (h : PySem.W.subIn K (.ref C) (.type T) = some b) : PySem.W.kitOne K (.ref C) (.type T) = some b := by
  unfold PySem.W.kitOne
  have e : ((Value.ref C) == Value.type T) = false := rfl
  rw [e, if_neg Bool.false_ne_true]
  show (if PySem.W.kitMeta T = true then PySem.W.subIn K (.ref C) (.type T) else none) = some b
  rw [if_pos km, h]
theorem exm_mk {K : PySem.W.Frag} {S : Addr} (h1 : PySem.W.subIn K (.ref S) (.type "BaseException") = some true) (h2 : PySem.W.isClsIn K S = true) (h3 : PySem.W.typeIn K (.ref S) = some (.type "type")) (h4 : PySem.W.subIn K (.ref S) (.ref S) = some true) :
    PySem.W.exmOne K (.ref S) (.ref S) = some true := by
  have e1 : (PySem.W.subIn K (.ref S) (.type "BaseException") == some true) = true := by rw [h1] <;> rfl
  show (if (PySem.W.subIn K (.ref S) (.type "BaseException") == some true) = true then PySem.W.kitCls K (.ref S) (.ref S) else none) = some true
  rw [if_pos e1, kit_eq h2 h3, h4]
theorem ki_mk {K : PySem.W.Frag} {c : Addr} (ty : Cls K c) (ha : PySem.W.findIn K (.ref c) "__class__" = some (some (.builtin "object.__class__"))) (hm : PySem.W.mroIn K c (.type "object") = some true)
    (ic : PySem.W.isClsIn K c = true) (tc : PySem.W.typeIn K (.ref c) = some (.type "type")) (s1 : PySem.W.mroIn K c (.type "int") = some false) (s2 : PySem.W.mroIn K c (.type "bool") = some false) : KiT K c where
  ty := ty
  ha := ha
  hn := rfl
  htk := rfl
  hm := hm
  i := kit_type (by decide +kernel) s1
  b := kit_type (by decide +kernel) s2
  cc := by
    unfold PySem.W.kitOne
    have e : ((Value.ref c) == Value.ref c) = true := by simp
    rw [e, if_pos rfl]
  k1 := kit_ref0 ic tc rfl rfl
  k2 := kit_ref0 ic tc rfl rfl
  k3 := kit_ref0 ic tc rfl rfl
  k4 := kit_ref0 ic tc rfl rfl
  k5 := kit_ref0 ic tc rfl rfl
  k6 := kit_ref0 ic tc rfl rfl
  k7 := kit_ref0 ic tc rfl rfl
  n1 := rfl
  n2 := rfl
  n3 := rfl
  n4 := rfl
  n5 := rfl
  n6 := rfl
  n7 := rfl
  s1 := s1
  s2 := s2
theorem ref_ne {K : PySem.W.Frag} {a b : Addr} (h1 : PySem.W.mroIn K a (.ref a) = some true) (h2 : PySem.W.mroIn K a (.ref b) = some false) : (Value.ref a == Value.ref b) = false := by
  cases e : (Value.ref a == Value.ref b) with
  | false => rfl
  | true =>
    have : Value.ref a = Value.ref b := by simpa using e
    cases this
    rw [h1] at h2
    cases h2
theorem cx_no {P : Program} {w : World} {H : Hp} {s s' : Shared} {e : Value} (z : L2.CX P w [] H s (fun _ _ _ => False) e s') : False := by
  obtain ⟨_, _, _, _, _, _, _, _, _, _, _, _, h⟩ := z
  exact h
end L2.My

/-! W6: own + - * of instances and ints, both ways. -/
namespace L2.My
open PySem PySem.Spec PyProof.Rows PySem.SeqAt
open AutoSeq1 (wpAny_loadPart')
/-! ### own + - * of two instances, of one and an int, and of an int and one -/
theorem int_add_declines (b : Int) (u : Tok) (l C dx : Addr) :
    Meets (Builtin.«int.__add__» ⟨[.int b u, .ref l], []⟩) (fun _ R s => s.heap.get? l = some (PySem.W.instObj C dx) ∧ R (.ok (.ret .notImplemented)) s) :=
  .of_wp fun prog w A R s h => by obtain ⟨hp, g, d, tk, os⟩ := s; obtain ⟨hl, h⟩ := h; wp_walk using wpAny_loadPart' hl, wpAny_load hl; exact ⟨_, rfl, h⟩
theorem int_sub_declines (b : Int) (u : Tok) (l C dx : Addr) :
    Meets (Builtin.«int.__sub__» ⟨[.int b u, .ref l], []⟩) (fun _ R s => s.heap.get? l = some (PySem.W.instObj C dx) ∧ R (.ok (.ret .notImplemented)) s) :=
  .of_wp fun prog w A R s h => by obtain ⟨hp, g, d, tk, os⟩ := s; obtain ⟨hl, h⟩ := h; wp_walk using wpAny_loadPart' hl, wpAny_load hl; exact ⟨_, rfl, h⟩
theorem int_mul_declines (b : Int) (u : Tok) (l C dx : Addr) :
    Meets (Builtin.«int.__mul__» ⟨[.int b u, .ref l], []⟩) (fun _ R s => s.heap.get? l = some (PySem.W.instObj C dx) ∧ R (.ok (.ret .notImplemented)) s) :=
  .of_wp fun prog w A R s h => by obtain ⟨hp, g, d, tk, os⟩ := s; obtain ⟨hl, h⟩ := h; wp_walk using wpAny_loadPart' hl, wpAny_load hl; exact ⟨_, rfl, h⟩

/-- int op instance: the instance's own reflected def -/
theorem bin_refl {prog : Program} {w : World} {A : Around} {E : Value → Shared → Prop} {s : Shared} {K : PySem.W.Frag} {x C f g : Addr} {ox : Obj} {od : Option Obj} {op : Operator} {b : Int} {t : Tok} {id : String} {Q : Value → Shared → Prop}
    (X : K.In s.heap) (I : PySem.W.InstAt s.heap x ox C od) (sf : PySem.W.selfFirst K C = true) (hsub : PySem.W.subIn K (.ref C) (.type "int") = some false)
    (hg : PySem.W.findIn K (.ref C) (PySem.dunder op.info.2) = some (some (.ref g))) (hs : PySem.W.findIn K (.ref C) (PySem.dunderR op.info.2) = some (some (.ref f))) (hf : PySem.W.isFn K (.ref f) = true)
    (fi : fillsNumberSlot (.type "int") op.info.2 = pure true) (sl : Slot "int" (PySem.dunder op.info.2) id)
    (hd : ∀ Q' : Value → Shared → Prop, Q' .notImplemented s → wpAny (model prog w) A (call (.builtin id) [.int b t, .ref x]) Q' E s)
    (h : wpAny (model prog w) A (call (.ref f) [.ref x, .int b t]) (PySem.W.CmpBack Q) E s) : wpAny (model prog w) A (binaryOp op (.int b t) (.ref x)) Q E s := by
  obtain ⟨cd, rest, e1, e2⟩ := PySem.W.ksp_first sf
  have fC : PySem.W.Looks (model prog w) s.heap (fillsNumberSlot (.ref C) op.info.2) true := PySem.W.fills_K X e1 e2 hg
  have hne : (Value.type "int" == Value.ref C) = false := rfl
  have ti : s.TypeIs (.int b t) "int" := typeIs_int s b t
  have one : wpAny (model prog w) A (binaryOp1 op.info.2 (.int b t) (.ref x)) (fun r s' => ∃ v, r = some v ∧ Q v s') E s := by
    unfold binaryOp1
    refine wpAny_bind (wpAny_typeOf ti (wpAny_bind (I.type.here ?_)))
    rw [fi]
    refine wpAny_bind (wpAny_pure ?_)
    simp only [hne, Bool.false_eq_true, if_false]
    refine wpAny_bind (fC.here ?_)
    simp only [Bool.and_self, if_true]
    refine wpAny_bind ((PySem.W.looks_subIn X hsub).here ?_)
    simp only [Bool.false_eq_true, if_false, Bool.and_self, Bool.not_false, if_true]
    refine wpAny_bind ?_
    show wpAny _ _ (pure false) _ _ _
    refine wpAny_pure ?_
    simp only [Bool.false_eq_true, if_false]
    refine wpAny_bind (wpAny_tryMethod_declines ti sl (hd _ ⟨rfl, ?_⟩))
    refine wpAny_bind (wpAny_mono (PySem.W.ksp_try X I hs hf h) (fun r s' z => ?_) fun _ _ e => e)
    obtain ⟨v, rfl, hq⟩ := z
    exact wpAny_bind (wpAny_rule (wpAny_pure ⟨_, rfl, hq⟩))
  unfold binaryOp
  refine wpAny_holding ?_
  refine wpAny_bind (wpAny_mono one (fun r s' z => ?_) fun _ _ e => e)
  obtain ⟨v, rfl, hq⟩ := z
  exact wpAny_pure hq
section
variable {X : Cx} {C : Addr} {k k' j : Nat} {ps ps' : List Str} {sp spr : Sp} {E : XK} {m mr : Str}
/-- x op y, where one of both is an instance of C and the other one an instance of C or an int -/
def rOwnB (C : Addr) (sp spr : Sp) (E : XK) : R2 := fun x y H Q =>
  (∃ a dx fs, x = .ref a ∧ H a = some (.ins C dx fs) ∧ ((∃ i, y = .int i) ∨ ∃ a' dx' fs', y = .ref a' ∧ H a' = some (.ins C dx' fs')) ∧ sp [x, y] H Q E) ∨
  (∃ i a dx fs, x = .int i ∧ y = .ref a ∧ H a = some (.ins C dx fs) ∧ spr [y, x] H Q E)
/-- what an own operator needs of the class -/
structure OwnB (K : PySem.W.Frag) (C : Addr) : Prop where
  sf : PySem.W.selfFirst K C = true
  si : PySem.W.subIn K (.ref C) (.type "int") = some false
theorem op_ownB {op : Operator} {id : String} {fo ro : Option Value} (T : OwnB X.K C) (fi : fillsNumberSlot (.type "int") op.info.2 = pure true) (sl : Slot "int" (PySem.dunder op.info.2) id)
    (ef : PySem.W.findIn X.K (.type "int") (PySem.dunder op.info.2) = some fo) (er : PySem.W.findIn X.K (.type "int") (PySem.dunderR op.info.2) = some ro)
    (hd : ∀ {A : Around} {s : Shared} {E' : Value → Shared → Prop} (b : Int) (t : Tok) (l dx : Addr) (Q' : Value → Shared → Prop), s.heap.get? l = some (PySem.W.instObj C dx) → Q' .notImplemented s → wpAny (model X.prog X.w) A (call (.builtin id) [.int b t, .ref l]) Q' E' s)
    (h : HasM X.prog X.w X.K X.mg X.base C (PySem.dunder op.info.2) k ps sp) (h' : HasM X.prog X.w X.K X.mg X.base C (PySem.dunderR op.info.2) k' ps' spr) (hr : Room j X.A) (hx : Passes (L2.CX X.prog X.w) X E) (hj : k ≤ j := by decide) (hj' : k' ≤ j := by decide) :
    OpR X (binaryOp op) (rOwnB C sp spr E) := by
  obtain ⟨f, fd, Fo, hm, hb⟩ := h
  obtain ⟨f', fd', Fo', hm', hb'⟩ := h'
  intro pins s σ H x y v u Q I rx ry hh
  obtain ⟨m, hF⟩ := I.fr
  rcases hh with ⟨a, dx, fs, rfl, ha, hy, q⟩ | ⟨i, a, dx, fs, rfl, rfl, ha, q⟩
  · cases (show v = Value.ref a from rx)
    obtain ⟨mA, O, _⟩ := ins_get I.hok ha
    obtain ⟨od, J, _⟩ := O.look
    have cl : wpAny (model X.prog X.w) X.A (call (.ref f) [.ref a, u]) (PySem.W.CmpBack (EP X pins σ Q)) X.xe s := by
      refine wpAny_mono (run_fn Fo (hr.mono hj) hb .nil hx I (.cons rx (.cons ry .nil)) q) (fun w s' z => ?_) fun _ _ x => x
      obtain ⟨z', H', I', rz, qz⟩ := z
      exact SlX.cmpback rz ⟨z', H', I', rz, qz⟩
    rcases hy with ⟨i, rfl⟩ | ⟨a', dx', fs', rfl, ha'⟩
    · obtain ⟨t, rfl⟩ := (show ∃ t, u = Value.int i t from ry)
      exact PySem.W.ksp_binT hF I.ok.mod.kin J rfl T.sf hm.at_ hm.fn hm'.at_ (.inr ⟨_, rfl⟩) ef er rfl cl
    · cases (show u = Value.ref a' from ry)
      obtain ⟨mA', O', _⟩ := ins_get I.hok ha'
      obtain ⟨od', J', _⟩ := O'.look
      exact PySem.W.binop_K hF I.ok.mod.kin J J'.type T.sf hm.at_ hm.fn cl
  · obtain ⟨t, rfl⟩ := (show ∃ t, v = Value.int i t from rx)
    cases (show u = Value.ref a from ry)
    obtain ⟨mA, O, _⟩ := ins_get I.hok ha
    obtain ⟨od, J, _⟩ := O.look
    refine bin_refl I.kIn J T.sf T.si hm.at_ hm'.at_ hm'.fn fi sl (fun Q' hq => hd i t a dx Q' O.obj hq) ?_
    refine wpAny_mono (run_fn Fo' (hr.mono hj') hb' .nil hx I (.cons ry (.cons rx .nil)) q) (fun w s' z => ?_) fun _ _ x => x
    obtain ⟨z', H', I', rz, qz⟩ := z
    exact SlX.cmpback rz ⟨z', H', I', rz, qz⟩
theorem op_addB (T : OwnB X.K C) (h : HasM X.prog X.w X.K X.mg X.base C "__add__" k ps sp) (h' : HasM X.prog X.w X.K X.mg X.base C "__radd__" k' ps' spr) (hr : Room j X.A) (hx : Passes (L2.CX X.prog X.w) X E) (hj : k ≤ j := by decide) (hj' : k' ≤ j := by decide) :
    OpR X (binaryOp .Add) (rOwnB C sp spr E) :=
  op_ownB (op := .Add) T F.fills_int_add F.slot_int_add rfl rfl (fun b t l dx Q' hl hq => call_meets F.slot_int_add (typeIs_int _ b t) F.entry_int_add (F.args_int_add_2 _ _) (int_add_declines b t l C dx) ⟨hl, hq⟩) h h' hr hx hj hj'
theorem op_subB (T : OwnB X.K C) (h : HasM X.prog X.w X.K X.mg X.base C "__sub__" k ps sp) (h' : HasM X.prog X.w X.K X.mg X.base C "__rsub__" k' ps' spr) (hr : Room j X.A) (hx : Passes (L2.CX X.prog X.w) X E) (hj : k ≤ j := by decide) (hj' : k' ≤ j := by decide) :
    OpR X (binaryOp .Sub) (rOwnB C sp spr E) :=
  op_ownB (op := .Sub) T F.fills_int_sub F.slot_int_sub rfl rfl (fun b t l dx Q' hl hq => call_meets F.slot_int_sub (typeIs_int _ b t) F.entry_int_sub (by first | exact F.args_int_sub_2 _ _ | (unfold argsOk; kernel_rfl)) (int_sub_declines b t l C dx) ⟨hl, hq⟩) h h' hr hx hj hj'
theorem op_mulB (T : OwnB X.K C) (h : HasM X.prog X.w X.K X.mg X.base C "__mul__" k ps sp) (h' : HasM X.prog X.w X.K X.mg X.base C "__rmul__" k' ps' spr) (hr : Room j X.A) (hx : Passes (L2.CX X.prog X.w) X E) (hj : k ≤ j := by decide) (hj' : k' ≤ j := by decide) :
    OpR X (binaryOp .Mult) (rOwnB C sp spr E) :=
  op_ownB (op := .Mult) T F.fills_int_mul F.slot_int_mul rfl rfl (fun b t l dx Q' hl hq => call_meets F.slot_int_mul (typeIs_int _ b t) F.entry_int_mul (F.args_int_mul_2 _ _) (int_mul_declines b t l C dx) ⟨hl, hq⟩) h h' hr hx hj hj'
/-- x op y, where x is an instance of C and y is one or an int -/
def rOwnL (C : Addr) (sp : Sp) (E : XK) : R2 := fun x y H Q =>
  ∃ a dx fs, x = .ref a ∧ H a = some (.ins C dx fs) ∧ ((∃ i, y = .int i) ∨ ∃ a' dx' fs', y = .ref a' ∧ H a' = some (.ins C dx' fs')) ∧ sp [x, y] H Q E
theorem op_ownL {op : Operator} {fo ro : Option Value} (T : OwnB X.K C) (hrc : ∃ g, PySem.W.findIn X.K (.ref C) (PySem.dunderR op.info.2) = some (some (.ref g)))
    (ef : PySem.W.findIn X.K (.type "int") (PySem.dunder op.info.2) = some fo) (er : PySem.W.findIn X.K (.type "int") (PySem.dunderR op.info.2) = some ro)
    (h : HasM X.prog X.w X.K X.mg X.base C (PySem.dunder op.info.2) k ps sp) (hr : Room j X.A) (hx : Passes (L2.CX X.prog X.w) X E) (hj : k ≤ j := by decide) :
    OpR X (binaryOp op) (rOwnL C sp E) := by
  obtain ⟨f, fd, Fo, hm, hb⟩ := h
  obtain ⟨g, hg⟩ := hrc
  intro pins s σ H x y v u Q I rx ry hh
  obtain ⟨m, hF⟩ := I.fr
  obtain ⟨a, dx, fs, rfl, ha, hy, q⟩ := hh
  cases (show v = Value.ref a from rx)
  obtain ⟨mA, O, _⟩ := ins_get I.hok ha
  obtain ⟨od, J, _⟩ := O.look
  have cl : wpAny (model X.prog X.w) X.A (call (.ref f) [.ref a, u]) (PySem.W.CmpBack (EP X pins σ Q)) X.xe s := by
    refine wpAny_mono (run_fn Fo (hr.mono hj) hb .nil hx I (.cons rx (.cons ry .nil)) q) (fun w s' z => ?_) fun _ _ x => x
    obtain ⟨z', H', I', rz, qz⟩ := z
    exact SlX.cmpback rz ⟨z', H', I', rz, qz⟩
  rcases hy with ⟨i, rfl⟩ | ⟨a', dx', fs', rfl, ha'⟩
  · obtain ⟨t, rfl⟩ := (show ∃ t, u = Value.int i t from ry)
    exact PySem.W.ksp_binT hF I.ok.mod.kin J rfl T.sf hm.at_ hm.fn hg (.inr ⟨_, rfl⟩) ef er rfl cl
  · cases (show u = Value.ref a' from ry)
    obtain ⟨mA', O', _⟩ := ins_get I.hok ha'
    obtain ⟨od', J', _⟩ := O'.look
    exact PySem.W.binop_K hF I.ok.mod.kin J J'.type T.sf hm.at_ hm.fn cl
theorem op_addL (T : OwnB X.K C) (hrc : ∃ g, PySem.W.findIn X.K (.ref C) "__radd__" = some (some (.ref g))) (h : HasM X.prog X.w X.K X.mg X.base C "__add__" k ps sp) (hr : Room j X.A) (hx : Passes (L2.CX X.prog X.w) X E) (hj : k ≤ j := by decide) :
    OpR X (binaryOp .Add) (rOwnL C sp E) := op_ownL (op := .Add) T hrc rfl rfl h hr hx hj
theorem op_subL (T : OwnB X.K C) (hrc : ∃ g, PySem.W.findIn X.K (.ref C) "__rsub__" = some (some (.ref g))) (h : HasM X.prog X.w X.K X.mg X.base C "__sub__" k ps sp) (hr : Room j X.A) (hx : Passes (L2.CX X.prog X.w) X E) (hj : k ≤ j := by decide) :
    OpR X (binaryOp .Sub) (rOwnL C sp E) := op_ownL (op := .Sub) T hrc rfl rfl h hr hx hj
theorem op_mulL (T : OwnB X.K C) (hrc : ∃ g, PySem.W.findIn X.K (.ref C) "__rmul__" = some (some (.ref g))) (h : HasM X.prog X.w X.K X.mg X.base C "__mul__" k ps sp) (hr : Room j X.A) (hx : Passes (L2.CX X.prog X.w) X E) (hj : k ≤ j := by decide) :
    OpR X (binaryOp .Mult) (rOwnL C sp E) := op_ownL (op := .Mult) T hrc rfl rfl h hr hx hj
end
theorem w_ifx {t : TT} {ta tb : TE} {σ : L2.St} {H : Hp} {Q : VK} (q : t σ H fun c H1 => if c = true then ta σ H1 Q else tb σ H1 Q) : tIf t ta tb σ H Q := q
theorem w_truB {K : PySem.W.Frag} {b : Bool} {H : Hp} {Q : Bool → Hp → Prop} (q : Q b H) : ∃ k, TruV K (.bl b) H k ∧ Q k H := ⟨b, rfl, q⟩
theorem w_truI {K : PySem.W.Frag} {i : Int} {H : Hp} {Q : Bool → Hp → Prop} (q : Q (i != 0) H) : ∃ k, TruV K (.int i) H k ∧ Q k H := ⟨_, rfl, q⟩
/-! ### numbers that are not too great -/
def Bw (n : Nat) (x : Int) : Prop := x.natAbs < 2 ^ n
theorem Bw.mul {m n : Nat} {x y : Int} (hx : Bw m x) (hy : Bw n y) : Bw (m + n) (x * y) := by
  unfold Bw at *
  rw [Int.natAbs_mul, Nat.pow_add]
  exact Nat.mul_lt_mul'' hx hy
theorem Bw.mono {m n : Nat} {x : Int} (hx : Bw m x) (h : m ≤ n) : Bw n x := Nat.lt_of_lt_of_le hx (Nat.pow_le_pow_right (by decide) h)
theorem Bw.add {m n : Nat} {x y : Int} (hx : Bw m x) (hy : Bw n y) : Bw (max m n + 1) (x + y) := by
  have h1 := hx.mono (Nat.le_max_left m n)
  have h2 := hy.mono (Nat.le_max_right m n)
  unfold Bw at *
  rw [Nat.pow_succ]
  have := Int.natAbs_add_le x y
  omega
theorem Bw.neg {m : Nat} {x : Int} (hx : Bw m x) : Bw m (-x) := by unfold Bw at *; rw [Int.natAbs_neg]; exact hx
theorem Bw.sub {m n : Nat} {x y : Int} (hx : Bw m x) (hy : Bw n y) : Bw (max m n + 1) (x - y) := by rw [Int.sub_eq_add_neg]; exact hx.add hy.neg
theorem Bw.two : Bw 2 2 := by unfold Bw; decide
theorem Bw.zero : Bw 1 0 := by unfold Bw; decide
theorem Bw.one : Bw 1 1 := by unfold Bw; decide
theorem Bw.bd {n : Nat} {x : Int} (h : Bw n x) (hn : Nat.ble n 8000 = true) : Bd x := Nat.lt_of_lt_of_le h (Nat.pow_le_pow_right (by decide) (Nat.le_of_ble_eq_true hn))
theorem bwm {m n : Nat} {x y : Int} (hx : Bw m x) (hy : Bw n y) (h : (Nat.ble m 8000 && Nat.ble n 8000) = true) : CMulS x y := by
  simp only [Bool.and_eq_true] at h
  have hx := hx.bd h.1
  have hy := hy.bd h.2
  exact .inr (.inr (wide_mul hx hy (by decide) (by decide) (by decide)))
theorem bw_of {x : Int} {n k : Nat} (h : x.natAbs ≤ n) (hn : Nat.blt n (2 ^ k) = true) : Bw k x := Nat.lt_of_le_of_lt h (by simpa using hn)
end L2.My

/-! W7: math.isqrt of great numbers. -/
namespace L2.My
open PySem PySem.Spec PyProof.Rows
section
variable {X : Cx}
/-- the whole of the square root -/
def sqr (a : Int) : Int := ((Float64.isqrt a.toNat : Nat) : Int)
theorem sqr_spec {a : Int} (h : 0 ≤ a) : 0 ≤ sqr a ∧ sqr a * sqr a ≤ a ∧ a < (sqr a + 1) * (sqr a + 1) := by
  obtain ⟨h1, h2⟩ := Float64.isqrt_spec a.toNat
  have e : ((a.toNat : Nat) : Int) = a := by omega
  unfold sqr
  refine ⟨by omega, ?_, ?_⟩
  · have := Int.ofNat_le.mpr h1
    rw [Int.natCast_mul, e] at this
    exact this
  · have := Int.ofNat_lt.mpr h2
    rw [Int.natCast_mul, e] at this
    exact this
def rSq : List V → Hp → VK → Prop := fun vs H Q => ∃ a : Int, vs = [.int a] ∧ 0 ≤ a ∧ Bw 8000 a ∧ Q (.int (sqr a)) H
theorem cr_isqrt : CallR X (.builtin "math.isqrt") rSq := by
  intro pins s σ H vs us Q I r h
  obtain ⟨a, rfl, h0, hb, q⟩ := h
  cases r with
  | cons ra r =>
    cases r
    obtain ⟨t, rfl⟩ := ra
    have hl : a.toNat.log2 < 8000 := PySem.Flt.log2_lt_of (by decide) (by unfold Bw at hb; omega)
    have g := PySem.W.mg_run_isqrt a t (by omega) (by omega) (by omega)
    exact call_function_meets PySem.W.MGF.kind_isqrt PySem.W.MGF.plain_isqrt PySem.W.MGF.entry_isqrt (PySem.W.MGF.args_isqrt _) g.meets ⟨.int _, H, I.tok _, ⟨_, rfl⟩, q⟩
end
end L2.My

/-! W8: for a, b in zip(l, m). -/
namespace L2.My
open PySem PySem.Spec PyProof.Rows
section
variable {K : PySem.W.Frag} {σ : St} {H : Hp} {g : TG} {tb : TS} {D : Ends} {a b : Addr} {xs ys : List V} {ta : TA}
theorem for_zip (Pv : Nat → St → Hp → Prop) (h0 : Pv 0 σ H) (hl : ∀ i σ H, i ≤ xs.length → Pv i σ H → SqL K H a xs ∧ SqL K H b ys) (e : xs.length = ys.length)
    (hs : ∀ i x y σ H T H', xs[i]? = some x → ys[i]? = some y → Pv i σ H → H T = none → Same H H' → H' T = some (.tup [x, y]) → g (.ref T) σ H' fun σ2 H2 => tb ⟨Pv (i + 1), D.rt, D.nx, Pv (i + 1)⟩ σ2 H2) (hd : ∀ σ H, Pv xs.length σ H → D.nx σ H) :
    ∃ W : Nat → Nat → St → Hp → Prop, (∃ m, W 0 m σ H) ∧ ∀ i m σ H, W i m σ H → (Itz K a b).stop i H ∧ D.nx σ H ∨ (Itz K a b).go i H ∧ ∃ N, (∀ σ' H', N σ' H' → ∃ m', m' < m ∧ W (i + 1) m' σ' H') ∧
      ∀ x H', (Itz K a b).yld i H x H' → g x σ H' fun σ2 H2 => tb ⟨N, D.rt, D.nx, N⟩ σ2 H2 := by
  refine ⟨fun i m σ H => Pv i σ H ∧ m + i = xs.length, ⟨xs.length, h0, rfl⟩, fun i m σ H ⟨q, em⟩ => ?_⟩
  obtain ⟨l1, l2⟩ := hl i σ H (by omega) q
  rcases Nat.lt_or_ge i xs.length with h | h
  · right
    have ex : xs[i]? = some xs[i] := List.getElem?_eq_getElem h
    have ey : ys[i]? = some (ys[i]'(by omega)) := List.getElem?_eq_getElem (by omega)
    refine ⟨⟨xs, ys, _, _, l1, l2, ex, ey⟩, Pv (i + 1), fun σ' H' q' => ⟨m - 1, by omega, q', by omega⟩, ?_⟩
    rintro x H' ⟨T, x', y', rfl, hT, rfl, h1, h2⟩
    exact hs i x' y' σ H T _ (h1 xs l1) (h2 ys l2) q hT (Same.new hT) upd_same
  · left
    have : i = xs.length := by omega
    subst this
    exact ⟨⟨xs, ys, l1, l2, .inl (Nat.le_refl _)⟩, hd σ H q⟩
def ForZ (K : PySem.W.Frag) (g : TG) (tb : TS) (D : Ends) (σ : St) (vs : List V) (H : Hp) : Prop := tFor (iZip K fun _ H Q => Q vs H) g tb D σ H
theorem w_forZ (q : ta σ H fun vs H1 => ForZ K g tb D σ vs H1) : tFor (iZip K ta) g tb D σ H := q
theorem k_forZ {nx bk ct : L2.St → Hp → Prop} {rt : VK} (Pv : Nat → St → Hp → Prop) (hx : SqL K H a xs) (hy : SqL K H b ys) (e : xs.length = ys.length) (h0 : Pv 0 σ H) (hl : ∀ i σ H, Pv i σ H → SqL K H a xs ∧ SqL K H b ys)
    (hs : ∀ i x y σ H T H', xs[i]? = some x → ys[i]? = some y → Pv i σ H → H T = none → Same H H' → H' T = some (.tup [x, y]) → g (.ref T) σ H' fun σ2 H2 => tb ⟨Pv (i + 1), rt, nx, Pv (i + 1)⟩ σ2 H2) (hd : ∀ σ H, Pv xs.length σ H → nx σ H) :
    ForZ K g tb ⟨nx, rt, bk, ct⟩ σ [.ref a, .ref b] H :=
  ⟨a, b, xs, ys, rfl, hx, hy, for_zip (D := ⟨nx, rt, bk, ct⟩) Pv h0 (fun i σ H _ q => hl i σ H q) e hs hd⟩
theorem ix_seqZ {X : Cx} {K : PySem.W.Frag} (h : X.K = K) : IxR X (rIx K) := h ▸ ix_seq
end
end L2.My

/-! W9: plain things, tuples of ints, data of any depth, all(), slices and sums of tuples. -/
namespace L2.My
open PySem PySem.Spec PyProof.Rows
/-- a thing that is no instance -/
inductive Plain (H : Hp) : V → Prop
  | non : Plain H .non
  | bl (b : Bool) : Plain H (.bl b)
  | int (i : Int) : Plain H (.int i)
  | str (s : Str) : Plain H (.str s)
  | lst (a : Addr) (xs : List V) (e : H a = some (.lst xs)) : Plain H (.ref a)
  | tup (a : Addr) (xs : List V) (e : H a = some (.tup xs)) : Plain H (.ref a)
theorem Plain.same {H H' : Hp} {v : V} (h : Plain H v) (s : Same H H') : Plain H' v := by
  cases h with
  | non => exact .non
  | bl b => exact .bl b
  | int i => exact .int i
  | str s => exact .str s
  | lst a xs e => exact .lst a xs (s _ _ e)
  | tup a xs e => exact .tup a xs (s _ _ e)
theorem Plain.th {c : Addr} {H : Hp} {v : V} (h : Plain H v) : Th c H v := by
  cases h with
  | non => exact .non
  | bl b => exact .bl b
  | int i => exact .int i
  | str s => exact .str s
  | lst a xs e => exact .lst a xs e
  | tup a xs e => exact .tup a xs e
def isTu (H : Hp) : V → Bool
  | .ref a => match H a with
    | some (.tup _) => true
    | _ => false
  | _ => false
theorem isTu_tup {H : Hp} {a : Addr} {xs : List V} (e : H a = some (.tup xs)) : isTu H (.ref a) = true := by
  show (match H a with | some (.tup _) => true | _ => false) = true
  rw [e]
theorem isTu_lst {H : Hp} {a : Addr} {xs : List V} (e : H a = some (.lst xs)) : isTu H (.ref a) = false := by
  show (match H a with | some (.tup _) => true | _ => false) = false
  rw [e]
theorem Plain.ty {K : PySem.W.Frag} {H : Hp} {v : V} (h : Plain H v) : ∃ t, TyX K H v t ∧ PySem.W.kitOne K t (.type "int") = some (isI v || isB v) ∧ PySem.W.kitOne K t (.type "bool") = some (isB v) ∧ PySem.W.kitOne K t (.type "tuple") = some (isTu H v) := by
  have kb : ∀ (a b : String) (r : Bool), kitB a b = some r → PySem.W.kitOne K (.type a) (.type b) = some r := fun _ _ _ h => kit_ty h
  cases h with
  | non => exact ⟨_, .base .non, kb "NoneType" "int" false (by decide +kernel), kb "NoneType" "bool" false (by decide +kernel), kb "NoneType" "tuple" false (by decide +kernel)⟩
  | bl b => exact ⟨_, .base (.bl b), kb "bool" "int" true (by decide +kernel), kb "bool" "bool" true (by decide +kernel), kb "bool" "tuple" false (by decide +kernel)⟩
  | int i => exact ⟨_, .base (.int i), kb "int" "int" true (by decide +kernel), kb "int" "bool" false (by decide +kernel), kb "int" "tuple" false (by decide +kernel)⟩
  | str s => exact ⟨_, .base (.str s), kb "str" "int" false (by decide +kernel), kb "str" "bool" false (by decide +kernel), kb "str" "tuple" false (by decide +kernel)⟩
  | lst a xs e => exact ⟨_, .base (.lst e), kb "list" "int" false (by decide +kernel), kb "list" "bool" false (by decide +kernel), by rw [isTu_lst e]; exact kb "list" "tuple" false (by decide +kernel)⟩
  | tup a xs e => exact ⟨_, .base (.tup e), kb "tuple" "int" false (by decide +kernel), kb "tuple" "bool" false (by decide +kernel), by rw [isTu_tup e]; exact kb "tuple" "tuple" true (by decide +kernel)⟩
section
variable {K : PySem.W.Frag} {σ : L2.St} {H : Hp} {Q : VK} {a b : Addr} {xs ys : List V} {te : TE} {ws : List Nat} {g : TG} {tt : TT} {v : V}
/-- a raised class that a clause's class is no base of -/
theorem exm_no {K : PySem.W.Frag} {S D : Addr} (h1 : PySem.W.mroIn K D (.type "BaseException") = some true) (h2 : PySem.W.isClsIn K D = true) (h3 : PySem.W.typeIn K (.ref D) = some (.type "type")) (h4 : PySem.W.mroIn K S (.ref D) = some false) :
    PySem.W.exmOne K (.ref S) (.ref D) = some false := by
  have e1 : (PySem.W.subIn K (.ref D) (.type "BaseException") == some true) = true := by
    have : PySem.W.subIn K (.ref D) (.type "BaseException") = some true := h1
    rw [this] <;> rfl
  show (if (PySem.W.subIn K (.ref D) (.type "BaseException") == some true) = true then PySem.W.kitCls K (.ref S) (.ref D) else none) = some false
  rw [if_pos e1, kit_eq h2 h3]
  exact h4
theorem w_all {bs : List Bool} (h : SqL K H a (bs.map V.bl)) (q : Q (.bl (bs.all id)) H) : rAll K [.ref a] H Q := ⟨a, bs, rfl, h, q⟩
/-- a slice of a tuple that is not the whole -/
theorem k_slT {lo hi : Option Int} (h : H a = some (.tup xs)) (n : ¬ (HT.sIx xs.length 0 lo = 0 ∧ HT.sIx xs.length xs.length hi = xs.length)) (q : ∀ p H2, H p = none → Same H H2 → H2 p = some (.tup (cutV xs lo hi)) → Q (.ref p) H2) : SlP (rSlA K) (.ref a) lo hi H Q :=
  ⟨a, xs, rfl, SqT.of h, fun z => absurd z n, fun _ p hp => q p _ hp (Same.new hp) upd_same⟩
/-- t + u, both not empty -/
theorem w_catT (h1 : H a = some (.tup xs)) (h2 : H b = some (.tup ys)) (n1 : xs ≠ []) (n2 : ys ≠ []) (hl : Nat.ble (xs.length + ys.length) 1000 = true) (q : ∀ p H2, H p = none → Same H H2 → H2 p = some (.tup (xs ++ ys)) → Q (.ref p) H2) : rCatA K (.ref a) (.ref b) H Q :=
  ⟨a, b, xs, ys, rfl, rfl, SqT.of h1, SqT.of h2, sz1000 (Nat.le_of_ble_eq_true hl), fun z => absurd z n1, fun _ z => absurd z n2, fun _ _ p hp => q p _ hp (Same.new hp) upd_same⟩
/-- t + u, any -/
theorem w_catA (h1 : H a = some (.tup xs)) (h2 : H b = some (.tup ys)) (hl : Nat.ble (xs.length + ys.length) 1000 = true) (q : ∀ p H2, Same H H2 → H2 p = some (.tup (xs ++ ys)) → Q (.ref p) H2) : rCatA K (.ref a) (.ref b) H Q :=
  ⟨a, b, xs, ys, rfl, rfl, SqT.of h1, SqT.of h2, sz1000 (Nat.le_of_ble_eq_true hl), fun z => q b H (Same.refl _) (by rw [h2, z, List.nil_append]), fun _ z => q a H (Same.refl _) (by rw [h1, z, List.append_nil]), fun _ _ p hp => q p _ (Same.new hp) upd_same⟩
theorem k_slA {lo hi : Option Int} (h : H a = some (.tup xs)) (q : ∀ p H2, Same H H2 → H2 p = some (.tup (cutV xs lo hi)) → Q (.ref p) H2) : SlP (rSlA K) (.ref a) lo hi H Q :=
  ⟨a, xs, rfl, SqT.of h, fun z => q a H (Same.refl _) (by
    have : cutV xs lo hi = xs := by
      unfold cutV
      rw [z.1, z.2, List.drop_zero, Nat.sub_zero, List.take_length]
    rw [h, this]), fun _ p hp => q p _ (Same.new hp) upd_same⟩
/-- [..] * k -/
theorem w_rep {k : Int} (h : H a = some (.lst xs)) (k0 : -(2 ^ 63) ≤ k) (k1 : k < 2 ^ 63) (hl : Nat.ble (xs.length * k.toNat) 1000 = true) (q : ∀ p H2, H p = none → Same H H2 → H2 p = some (.lst (List.replicate k.toNat xs).flatten) → Q (.ref p) H2) : rRep (.ref a) (.int k) H Q :=
  ⟨a, k, xs, rfl, rfl, h, k0, k1, sz1000 (Nat.le_of_ble_eq_true hl), fun p hp => q p _ hp (Same.new hp) upd_same⟩
/-- tuple(list) -/
def rTupOf (K : PySem.W.Frag) : List V → Hp → VK → Prop := fun xs H Q => ∃ p ys, xs = [.ref p] ∧ ((SqL K H p ys ∧ ∀ l, H l = none → Q (.ref l) (upd H l (.tup ys))) ∨ (SqT K H p ys ∧ Q (.ref p) H))
theorem cn_tuple {X : Cx} : CallR X (.type "tuple") (rTupOf X.K) := call_tuple_of
theorem w_tupL (h : H a = some (.lst xs)) (q : ∀ p H2, H p = none → Same H H2 → H2 p = some (.tup xs) → Q (.ref p) H2) : rTupOf K [.ref a] H Q := ⟨a, xs, rfl, .inl ⟨SqL.of h, fun l hl => q l _ hl (Same.new hl) upd_same⟩⟩
/-- xs.append(y) -/
theorem w_append {l : Addr} {y : V} (h : H l = some (.lst xs)) (hl : xs.length < 1000) (q : ∀ H2, SameX l H H2 → H2 l = some (.lst (xs ++ [y])) → Q .non H2) : rAppend (.ref l) [y] H Q :=
  ⟨l, xs, y, rfl, rfl, h, Nat.lt_of_lt_of_le hl (by decide), q _ (SameX.upd fun _ _ _ e => e) upd_same⟩
/-- a, b, c, d = t -/
theorem k_tup4 {T : Addr} {x y z u : V} {σ' : L2.St} {i j k l : Nat} {N : L2.St → Hp → Prop} {n : Nat} (hT : H T = some (.tup [x, y, z, u])) (hn : n = 4) (hσ : (((σ.set i (some x)).set j (some y)).set k (some z)).set l (some u) = σ') (q : N σ' H) :
    gTup K n (gCons (gName i) (gCons (gName j) (gCons (gName k) (gCons (gName l) gNil)))) (.ref T) σ H N := by
  subst hσ
  exact ⟨T, [x, y, z, u], rfl, SqT.of hT, by rw [hn]; rfl, x, [y, z, u], rfl, y, [z, u], rfl, z, [u], rfl, u, [], rfl, rfl, q⟩
theorem k_tupl2 {T : Addr} {x y : V} {σ' : L2.St} {i j : Nat} {N : L2.St → Hp → Prop} {n : Nat} (hT : H T = some (.tup [x, y])) (hn : n = 2) (hσ : (σ.set i (some x)).set j (some y) = σ') (q : N σ' H) : gTup K n (gCons (gName i) (gCons (gName j) gNil)) (.ref T) σ H N := by
  subst hσ
  exact ⟨T, [x, y], rfl, SqT.of hT, by rw [hn]; rfl, x, [y], rfl, y, [], rfl, rfl, q⟩
/-- a comprehension over a tuple whose turns tell flags and change nothing -/
theorem k_lcFlags {f : V → Bool} {slot : Nat} (h : H a = some (.tup xs)) (hl : xs.length ≤ 500) (hw : ∀ x, wipe ((wipe σ ws).set slot (some x)) ws = wipe σ ws)
    (turn : ∀ x H', x ∈ xs → Same H H' → ∀ N : VK, N (.bl (f x)) H' → te ((wipe σ ws).set slot (some x)) H' N)
    (hd : ∀ D H', H D = none → Same H H' → H' D = some (.lst ((xs.map f).map V.bl)) → Q (.ref D) H') : CompT K (gName slot) tYes te ws σ (.ref a) H Q := by
  refine ⟨a, rfl, ⟨_, SqT.of h⟩, fun D hD => lc_tup (xs := xs) (fun i H' => Same H H' ∧ H' D = some (.lst (((xs.take i).map f).map V.bl))) ⟨Same.new hD, upd_same⟩ (fun i H' _ e => SqT.of (e.1 _ _ h)) (fun i x H' hx e => ?_) (fun H' e => ?_)⟩
  · have hi : i < xs.length := (List.getElem?_eq_some_iff.mp hx).1
    obtain rfl : xs[i] = x := by rw [List.getElem?_eq_getElem hi] at hx; exact Option.some.inj hx
    refine ⟨hw _, ?_⟩
    refine w_yes (w_T rfl ?_)
    refine turn _ H' (List.getElem_mem hi) e.1 _ ?_
    refine ⟨_, e.2, by rw [List.length_map, List.length_map, List.length_take]; exact sz_lt (by omega), fun b o eb => ?_, ?_⟩
    · rw [upd_ne (ne_of_none eb hD)]
      exact e.1 b o eb
    · have e2 : xs.take (i + 1) = xs.take i ++ [xs[i]] := by rw [List.take_add_one, List.getElem?_eq_getElem hi]; rfl
      rw [upd_same, e2, List.map_append, List.map_append]
      rfl
  · have e2 := e.2
    rw [List.take_length] at e2
    exact hd D H' hD e.1 e2
theorem w_lcTT {tl : TE} (q : tl σ H fun x H1 => CompT K g tt te ws σ x H1 Q) : tLc (iTup K tl) g tt te ws σ H Q := q
/-- a thing of data, not deep -/
structure Data (K : PySem.W.Frag) (H : Hp) (v : V) (d : PyData) : Prop where
  dp : Dp K H v d
  lay : d.canLay0 = true
  dep : d.depth ≤ 10
theorem sqL_same {H H' : Hp} {a : Addr} {xs : List V} (h : H a = some (.lst xs)) (s : Same H H') : SqL K H' a xs := SqL.of (s _ _ h)
theorem eq_same {d : PyData} (h : d.canLay0 = true) : PyData.eqv d d = true := SeqAt.eqv_refl d h
end
/-! ### zip of two tuples -/
section
variable {K : PySem.W.Frag} {σ : St} {H : Hp} {g : TG} {tb : TS} {D : Ends} {a b : Addr} {xs ys : List V} {ta : TA}
def ForZT (K : PySem.W.Frag) (g : TG) (tb : TS) (D : Ends) (σ : St) (vs : List V) (H : Hp) : Prop := tFor (RZ.iZipA K fun _ H Q => Q vs H) g tb D σ H
theorem w_forZT (q : ta σ H fun vs H1 => ForZT K g tb D σ vs H1) : tFor (RZ.iZipA K ta) g tb D σ H := q
theorem for_zipT (Pv : Nat → St → Hp → Prop) (h0 : Pv 0 σ H) (hl : ∀ i σ H, i ≤ xs.length → Pv i σ H → SqT K H a xs ∧ SqT K H b ys) (e : xs.length = ys.length)
    (hs : ∀ i x y σ H T H', xs[i]? = some x → ys[i]? = some y → Pv i σ H → H T = none → Same H H' → H' T = some (.tup [x, y]) → g (.ref T) σ H' fun σ2 H2 => tb ⟨Pv (i + 1), D.rt, D.nx, Pv (i + 1)⟩ σ2 H2) (hd : ∀ σ H, Pv xs.length σ H → D.nx σ H) :
    ∃ W : Nat → Nat → St → Hp → Prop, (∃ m, W 0 m σ H) ∧ ∀ i m σ H, W i m σ H → (RZ.ItzT K a b).stop i H ∧ D.nx σ H ∨ (RZ.ItzT K a b).go i H ∧ ∃ N, (∀ σ' H', N σ' H' → ∃ m', m' < m ∧ W (i + 1) m' σ' H') ∧
      ∀ x H', (RZ.ItzT K a b).yld i H x H' → g x σ H' fun σ2 H2 => tb ⟨N, D.rt, D.nx, N⟩ σ2 H2 := by
  refine ⟨fun i m σ H => Pv i σ H ∧ m + i = xs.length, ⟨xs.length, h0, rfl⟩, fun i m σ H ⟨q, em⟩ => ?_⟩
  obtain ⟨l1, l2⟩ := hl i σ H (by omega) q
  rcases Nat.lt_or_ge i xs.length with h | h
  · right
    have ex : xs[i]? = some xs[i] := List.getElem?_eq_getElem h
    have ey : ys[i]? = some (ys[i]'(by omega)) := List.getElem?_eq_getElem (by omega)
    refine ⟨⟨xs, ys, _, _, l1, l2, ex, ey⟩, Pv (i + 1), fun σ' H' q' => ⟨m - 1, by omega, q', by omega⟩, ?_⟩
    rintro x H' ⟨T, x', y', rfl, hT, rfl, h1, h2⟩
    exact hs i x' y' σ H T _ (h1 xs l1) (h2 ys l2) q hT (Same.new hT) upd_same
  · left
    have : i = xs.length := by omega
    subst this
    exact ⟨⟨xs, ys, l1, l2, .inl (Nat.le_refl _)⟩, hd σ H q⟩
theorem k_forZT {nx bk ct : L2.St → Hp → Prop} {rt : VK} (Pv : Nat → St → Hp → Prop) (hx : H a = some (.tup xs)) (hy : H b = some (.tup ys)) (e : xs.length = ys.length) (h0 : Pv 0 σ H) (hl : ∀ i σ H, Pv i σ H → SqT K H a xs ∧ SqT K H b ys)
    (hs : ∀ i x y σ H T H', xs[i]? = some x → ys[i]? = some y → Pv i σ H → H T = none → Same H H' → H' T = some (.tup [x, y]) → g (.ref T) σ H' fun σ2 H2 => tb ⟨Pv (i + 1), rt, nx, Pv (i + 1)⟩ σ2 H2) (hd : ∀ σ H, Pv xs.length σ H → nx σ H) :
    ForZT K g tb ⟨nx, rt, bk, ct⟩ σ [.ref a, .ref b] H :=
  ⟨a, b, xs, ys, rfl, .inr ⟨SqT.of hx, SqT.of hy, for_zipT (D := ⟨nx, rt, bk, ct⟩) Pv h0 (fun i σ H _ q => hl i σ H q) e hs hd⟩⟩
end
/-- what is no list stays -/
def Kps (H H' : Hp) : Prop := ∀ b o, (∀ xs, o ≠ .lst xs) → H b = some o → H' b = some o
theorem Kps.refl (H : Hp) : Kps H H := fun _ _ _ h => h
theorem Kps.trans {A B C : Hp} (h : Kps A B) (k : Kps B C) : Kps A C := fun b o n e => k b o n (h b o n e)
theorem Kps.same {A B : Hp} (h : Same A B) : Kps A B := fun b o _ e => h b o e
theorem Kps.sx {A B : Hp} {l : Addr} {ys : List V} (hl : A l = some (.lst ys)) (h : SameX l A B) : Kps A B := fun b o n e => h b o (ne_of e hl (n _)) e
theorem Kps.st {A B : Hp} {st sc : Addr} (hs : StA A st sc) (h : SameX st A B) : Kps A B := fun b o n e => h b o (hs.ne e n) e
theorem Kps.tup {A B : Hp} (h : Kps A B) {a : Addr} {xs : List V} (e : A a = some (.tup xs)) : B a = some (.tup xs) := h _ _ (by intro xs z; cases z) e
/-! ### xs.append(e), a <= b <= c -/
def LBm (K : PySem.W.Frag) (x : V) (H : Hp) (N : Prop) : Prop := tyV K "list" x H ∧ N
theorem w_bm {K : PySem.W.Frag} {r : V → List V → Hp → VK → Prop} {to : TE} {t : TA} {σ : L2.St} {H : Hp} {Q : VK} (q : to σ H fun x H1 => LBm K x H1 (t σ H1 fun xs H2 => r x xs H2 Q)) : tBM K "list" r to t σ H Q := q
theorem k_bm {K : PySem.W.Frag} {a : Addr} {xs : List V} {H : Hp} {N : Prop} (h : H a = some (.lst xs)) (q : N) : LBm K (.ref a) H N := ⟨.inl ⟨rfl, _, SqL.of h⟩, q⟩
theorem w_chain {r r' : R2} {ta tb tc : TE} {σ : L2.St} {H : Hp} {Q : VK} (q : ta σ H fun x H1 => tb σ H1 fun y H2 => r x y H2 fun z H3 => ∃ k, z = .bl k ∧ (if k = true then tc σ H3 fun w' H4 => r' y w' H4 Q else Q (.bl false) H3)) : tChain r r' ta tb tc σ H Q := q
/-- o.m(e, ..) where the fragment is told: a suite's context bears the caught error, its fragment is the same -/
theorem pe_bmZ {X : Cx} {K : PySem.W.Frag} {o e : Expr} {es : List Expr} {to : TE} {t : TA} {m : Str} {ap cp : Pos} {T id : String} {r : V → List V → Hp → VK → Prop} (hK : X.K = K)
    (pa : PlainAttrs T) (sl : Slot T m id) (ht : typeOf (.builtin id) = pure (.type "method_descriptor")) (hm : MtR X id r) (ho : PE X o to) (ha : PA X (e :: es) t)
    (h1 : attributeBase o m X.env (eval o X.env) = eval o X.env := by rfl)
    (h2 : ((backTo cp (starEach (e :: es) X.env)).all (fun x => !x.1) && (backToKw cp (keywordEach [] X.env)).all (fun x => x.1.isSome) && decide ((e :: es).length + ([] : List Keyword).length + (if ([] : List Keyword).isEmpty then 0 else 1) < 30)) = true := by rfl)
    (h3 : (ap.endLine == cp.line) = true := by rfl) (h4 : starEach (e :: es) X.env = (false, eval e X.env) :: starEach es X.env := by rfl) (h5 : (backTo cp (starEach es X.env)).any (·.1) = false := by rfl) :
    PE X (.Call (.Attribute o m ap) (e :: es) [] cp) (tBM K T r to t) := by
  subst hK
  exact pe_bm pa sl ht hm ho ha h1 h2 h3 h4 h5
end L2.My

local macro_rules | `(tactic| walk_at "side") => `(tactic| first | (exact Or.inl ⟨by omega, by omega⟩) | (exact Or.inr (Or.inl ⟨by omega, by omega⟩)) | (exact ⟨by decide, by decide⟩) | (show (0 : Int) < _; omega) | assumption | (exact ⟨by decide, by decide, by decide⟩))
local macro_rules | `(tactic| walk_at "st") => `(tactic| first | with_reducible exact L2.My.set0 | with_reducible exact L2.My.set1 | with_reducible exact L2.My.set2 | with_reducible exact L2.My.set3 | with_reducible exact L2.My.set4 | with_reducible exact L2.My.set5 | with_reducible exact L2.My.set6 | with_reducible exact L2.My.set7 | with_reducible exact L2.My.set8 | with_reducible exact L2.My.set9 | with_reducible exact L2.My.set10 | with_reducible exact L2.My.set11 | with_reducible exact L2.My.set12 | with_reducible exact L2.My.set13 | with_reducible exact L2.My.set14 | with_reducible exact L2.My.set15 | with_reducible exact L2.My.set16 | with_reducible exact L2.My.set17 | with_reducible exact L2.My.set18 | with_reducible exact L2.My.set19 | with_reducible exact L2.My.set20 | with_reducible exact L2.My.set21 | with_reducible exact L2.My.set22 | with_reducible exact L2.My.set23 | exact L2.My.set0 | exact L2.My.set1 | exact L2.My.set2 | exact L2.My.set3 | exact L2.My.set4 | exact L2.My.set5 | exact L2.My.set6 | exact L2.My.set7 | exact L2.My.set8 | exact L2.My.set9 | exact L2.My.set10 | exact L2.My.set11 | exact L2.My.set12 | exact L2.My.set13 | exact L2.My.set14 | exact L2.My.set15 | exact L2.My.set16 | exact L2.My.set17 | exact L2.My.set18 | exact L2.My.set19 | exact L2.My.set20 | exact L2.My.set21 | exact L2.My.set22 | exact L2.My.set23)
local macro_rules | `(tactic| walk_at "s") => `(tactic| first
  | with_reducible refine L2.My.w_seq ?_ | with_reducible refine L2.My.w_asg ?_ | with_reducible refine L2.My.w_op ?_ | with_reducible refine L2.My.w_ret ?_ | with_reducible refine L2.My.w_if ?_
  | ((with_reducible refine' L2.My.w_var ?hv ?_); (case hv => exact rfl)) | with_reducible refine L2.My.w_c ?_ | with_reducible refine L2.My.w_I0 ?_ | with_reducible refine L2.My.w_U ?_
  | ((with_reducible refine' L2.My.w_name ?hs ?_); (case hs => walk_at "st")) | with_reducible refine L2.My.w_next ?_ | with_reducible refine L2.My.w_drop ?_
  | with_reducible refine L2.My.w_test ?_ | with_reducible refine L2.My.w_B ?_ | with_reducible refine L2.My.w_bl ?_ | with_reducible refine L2.My.w_blV ?_ | with_reducible refine L2.My.w_and ?_ | with_reducible refine L2.My.w_or ?_ | with_reducible refine L2.My.w_not ?_
  | with_reducible refine L2.My.w_andV ?_ | with_reducible refine L2.My.w_orV ?_ | with_reducible refine L2.My.w_notV ?_ | with_reducible refine L2.My.w_un ?_
  | ((with_reducible refine' L2.My.w_T ?hc ?_); (case hc => exact rfl)) | ((with_reducible refine' L2.My.w_F ?hc ?_); (case hc => exact rfl))
  | with_reducible refine L2.My.w_cons ?_ | with_reducible refine L2.My.w_nil ?_ | with_reducible refine L2.My.w_call ?_ | with_reducible refine L2.My.w_cb ?_
  | with_reducible refine L2.My.w_tup ?_ | with_reducible refine L2.My.w_lst ?_ | with_reducible refine L2.My.w_fldE ?_ | with_reducible refine L2.My.w_mkO ?_ | with_reducible refine L2.My.w_int ?_ | with_reducible refine L2.My.w_intB ?_ | with_reducible refine L2.My.w_abs ?_ | with_reducible refine L2.My.w_yes ?_ | with_reducible refine L2.My.w_Tself ?_ | with_reducible refine L2.My.w_Fself ?_ | with_reducible refine L2.My.w_sl ?_ | with_reducible refine L2.My.w_dnew ?_ | with_reducible refine L2.My.w_isB ?_ | with_reducible refine L2.My.w_gsub ?_ | with_reducible refine L2.My.w_poN ?_ | with_reducible refine L2.My.w_poS ?_ | with_reducible refine L2.My.w_exI ?_
  | ((with_reducible refine' L2.My.w_I ?hc ?_); (case hc => walk_at "side"))
  | ((with_reducible refine' L2.My.w_ixL ?hh ?he ?_); (case hh => assumption); (case he => exact rfl)) | ((with_reducible refine' L2.My.w_ixT ?hh ?he ?_); (case hh => assumption); (case he => exact rfl))
  | with_reducible refine L2.My.w_xf ?_ | with_reducible refine L2.My.w_stoE ?_ | with_reducible refine L2.My.w_mkC ?_ | with_reducible refine L2.My.w_meth ?_
  | with_reducible refine L2.My.w_forT ?_ | with_reducible refine L2.My.w_forL ?_ | with_reducible refine L2.My.w_forR ?_ | with_reducible refine L2.My.w_forR2 ?_ | with_reducible refine L2.My.w_forZ ?_ | with_reducible refine L2.My.w_lcL ?_ | with_reducible refine L2.My.w_lcT ?_ | with_reducible refine L2.My.w_lcR ?_
  | with_reducible refine L2.My.w_ifx ?_ | with_reducible refine L2.My.w_truB ?_ | with_reducible refine L2.My.w_truI ?_
  | with_reducible refine L2.My.w_eq rfl ?_ | with_reducible refine L2.My.w_ne rfl ?_)
local macro_rules | `(tactic| walk_at "W") => `(tactic| repeat (walk_at "s"))

-- needs W9
namespace L2.My
open PySem PySem.Spec PyProof.Rows
def top (i : Nat) : Stmt := PySem.Challenge.pw_threetiles_k05_whole_corners_turned_and.main.body.getD i (.Pass ⟨0, 0, 0, 0⟩)
/-- where the classes stand -/
structure Zs where
  K : PySem.W.Frag
  c_FloorError : Addr
  c_BadCorner : Addr
  c_BadDirection : Addr

/-- what the top has left -/
structure Txt (Z : Zs) (mg : Str → Option Value) : Prop where
  n_list : mg "list" = none
  n_int : mg "int" = none
  n_range : mg "range" = none
  n_len : mg "len" = none
  n_abs : mg "abs" = none
  n_all : mg "all" = none
  n_isinstance : mg "isinstance" = none
  n_tuple : mg "tuple" = none
  n_bool : mg "bool" = none
  n_zip : mg "zip" = none
  g_FloorError : mg "FloorError" = some (.ref Z.c_FloorError)
  g_BadCorner : mg "BadCorner" = some (.ref Z.c_BadCorner)
  g_BadDirection : mg "BadDirection" = some (.ref Z.c_BadDirection)
  x_BadCorner : OexC Z.K Z.c_BadCorner
  xn_BadCorner : PySem.W.findIn Z.K (.ref Z.c_BadCorner) "corner" = some none
  xf_BadCorner : XfC Z.K Z.c_BadCorner
  xm_BadCorner : PySem.W.exmOne Z.K (.ref Z.c_BadCorner) (.ref Z.c_BadCorner) = some true
  x_BadDirection : OexC Z.K Z.c_BadDirection
  xn_BadDirection : PySem.W.findIn Z.K (.ref Z.c_BadDirection) "direction" = some none
  xf_BadDirection : XfC Z.K Z.c_BadDirection
  xm_BadDirection : PySem.W.exmOne Z.K (.ref Z.c_BadDirection) (.ref Z.c_BadDirection) = some true
abbrev ThI (_Z : Zs) (H : Hp) (v : V) : Prop := Plain H v
theorem Plain.thI {Z : Zs} {H : Hp} {v : V} (h : Plain H v) : ThI Z H v := h
theorem thI_ty {Z : Zs} {mg : Str → Option Value} {H : Hp} {v : V} (h : ThI Z H v) (T : Txt Z mg) : ∃ t, TyX Z.K H v t ∧ PySem.W.kitOne Z.K t (.type "int") = some (isI v || isB v) ∧ PySem.W.kitOne Z.K t (.type "bool") = some (isB v) := by
  obtain ⟨t, a, b, c, _⟩ := h.ty
  exact ⟨t, a, b, c⟩
theorem thI_same {Z : Zs} {H H' : Hp} {v : V} (h : ThI Z H v) (s : Same H H') : ThI Z H' v := h.same s
variable {P : Program} {w : World} {mg : Str → Option Value} {base : Heap} {Z : Zs}
abbrev s_is_integral : Stmt := top 5
theorem sc_is_integral : FnScope ["thing"] ["thing"] (defScope s_is_integral) := ⟨rfl, rfl, rfl, by decide +kernel, rfl, by decide +kernel, by decide +kernel⟩

def sp_is_integral (Z : Zs) : Sp := fun vs H Q E =>
  ∃ v, vs = [v] ∧ ThI Z H v ∧ Q (.bl (isI v)) H
theorem ok_is_integral (T : Txt Z mg)  (D : AtF Z.K mg "is_integral" "is_integral" s_is_integral ["thing"]) : Has P w Z.K mg base "is_integral" 1 ["thing"] (sp_is_integral Z) := by
  refine D.ok sc_is_integral (fun vs H Q E h => ?_) (fun cdv A outer s H vs Q E hr h => ?_)
  · obtain ⟨v, rfl, _⟩ := h
    rfl
  · refine ⟨_, (pss_one (ps_ret (pe_and (pe_callB call_isi rfl T.n_isinstance (by decide +kernel) (pa_cons (pv 0) (pa_cons (pe_bltn (v := .ty "int") rfl T.n_int (by decide +kernel) rfl) pa_nil))) (pe_one (pe_not (pe_callB call_isi rfl T.n_isinstance (by decide +kernel) (pa_cons (pv 0) (pa_cons (pe_bltn (v := .ty "bool") rfl T.n_bool (by decide +kernel) rfl) pa_nil)))))))), ?_⟩
    try simp only [cxOf]
    obtain ⟨v, rfl, hv, q⟩ := h
    obtain ⟨t, ty, k1, k2⟩ := thI_ty hv T
    walk_at "W"
    refine w_isi ty k1 ?_
    walk_at "W"
    cases e : isI v || isB v
    · walk_at "W"
      have : isI v = false := by cases v <;> simp_all [isI, isB]
      rw [this] at q; exact q
    · walk_at "W"
      refine w_isi ty k2 ?_
      walk_at "W"
      have : (!isB v) = isI v := by cases v <;> simp_all [isI, isB]
      rw [this]; exact q
abbrev s_BadCorner_init : Stmt := inClass (top 2) 0
theorem sc_BadCorner_init : FnScope ["self", "corner"] ["self", "corner"] (defScope s_BadCorner_init) := ⟨rfl, rfl, rfl, by decide +kernel, rfl, by decide +kernel, by decide +kernel⟩

def sp_BadCorner_init (Z : Zs) : Sp := fun vs H Q E =>
  spX Z.c_BadCorner "corner" vs H Q E
theorem ok_BadCorner_init (T : Txt Z mg)  (D : AtX Z.K mg "BadCorner" Z.c_BadCorner "BadCorner.__init__" s_BadCorner_init ["self", "corner"]) : HasX P w Z.K mg base "BadCorner" Z.c_BadCorner 1 ["self", "corner"] (sp_BadCorner_init Z) := by
  refine D.ok sc_BadCorner_init (fun vs H Q E h => ?_) (fun cdv A outer s H vs Q E hr h => ?_)
  · obtain ⟨a, v, rfl, _⟩ := h
    rfl
  · refine ⟨_, (pss_one (ps_ost (pv 0) (pv 1))), ?_⟩
    try simp only [cxOf]
    obtain ⟨a, v, rfl, ha, q⟩ := h
    exact ⟨_, rfl, _, rfl, a, Z.c_BadCorner, rfl, T.x_BadCorner, T.xn_BadCorner, Or.inl ⟨ha, fun d hd hn => q d hd hn⟩⟩
abbrev s_BadDirection_init : Stmt := inClass (top 3) 0
theorem sc_BadDirection_init : FnScope ["self", "direction"] ["self", "direction"] (defScope s_BadDirection_init) := ⟨rfl, rfl, rfl, by decide +kernel, rfl, by decide +kernel, by decide +kernel⟩

def sp_BadDirection_init (Z : Zs) : Sp := fun vs H Q E =>
  spX Z.c_BadDirection "direction" vs H Q E
theorem ok_BadDirection_init (T : Txt Z mg)  (D : AtX Z.K mg "BadDirection" Z.c_BadDirection "BadDirection.__init__" s_BadDirection_init ["self", "direction"]) : HasX P w Z.K mg base "BadDirection" Z.c_BadDirection 1 ["self", "direction"] (sp_BadDirection_init Z) := by
  refine D.ok sc_BadDirection_init (fun vs H Q E h => ?_) (fun cdv A outer s H vs Q E hr h => ?_)
  · obtain ⟨a, v, rfl, _⟩ := h
    rfl
  · refine ⟨_, (pss_one (ps_ost (pv 0) (pv 1))), ?_⟩
    try simp only [cxOf]
    obtain ⟨a, v, rfl, ha, q⟩ := h
    exact ⟨_, rfl, _, rfl, a, Z.c_BadDirection, rfl, T.x_BadDirection, T.xn_BadDirection, Or.inl ⟨ha, fun d hd hn => q d hd hn⟩⟩
local macro_rules | `(tactic| walk_at "bw") => `(tactic| first | assumption | exact L2.My.Bw.two | exact L2.My.Bw.zero | exact L2.My.Bw.one | ((refine' L2.My.Bw.mul ?hx ?hy); (case hx => walk_at "bw"); (case hy => walk_at "bw")) | ((refine' L2.My.Bw.add ?hx ?hy); (case hx => walk_at "bw"); (case hy => walk_at "bw")) | ((refine' L2.My.Bw.sub ?hx ?hy); (case hx => walk_at "bw"); (case hy => walk_at "bw")) | ((refine' L2.My.Bw.neg ?hx); (case hx => walk_at "bw")))
local macro_rules | `(tactic| walk_at "mul") => `(tactic| ((refine' L2.My.w_I (L2.My.bwm (m := ?m) (n := ?n) ?hx ?hy ?hm) ?_); (case hx => walk_at "bw"); (case hy => walk_at "bw"); (case hm => decide)))
/-- what two numbers make -/
structure F3 where
  t : Int → Int → Int → Int → Int → Int → Int
  r : Int → Int → Int → Int → Int → Int → Int
  b : Int → Int → Int → Int → Int → Int → Int
def plus : F3 := ⟨fun t _ b t' _ b' => t * b' + t' * b, fun _ r b _ r' b' => r * b' + r' * b, fun _ _ b _ _ b' => b * b'⟩
def minus : F3 := ⟨fun t _ b t' _ b' => t * b' - t' * b, fun _ r b _ r' b' => r * b' - r' * b, fun _ _ b _ _ b' => b * b'⟩
def times : F3 := ⟨fun t r _ t' r' _ => t * t' + 2 * r * r', fun t r _ t' r' _ => t * r' + r * t', fun _ _ b _ _ b' => b * b'⟩
/-- other minus one -/
def back (F : F3) : F3 := ⟨fun t r b t' r' b' => F.t t' r' b' t r b, fun t r b t' r' b' => F.r t' r' b' t r b, fun t r b t' r' b' => F.b t' r' b' t r b⟩
/-- three parts that are not too great -/
def B3 (t r b : Int) : Prop := Bw 1000 t ∧ Bw 1000 r ∧ Bw 1000 b
def T3 (H : Hp) (p : Addr) (t r b : Int) : Prop := H p = some (.tup [.int t, .int r, .int b])
def spTwo (F : F3) : Sp := fun vs H Q _ => ∃ p p' t r b t' r' b', vs = [.ref p, .ref p'] ∧ T3 H p t r b ∧ T3 H p' t' r' b' ∧ B3 t r b ∧ B3 t' r' b' ∧
  ∀ u H', H u = none → Same H H' → T3 H' u (F.t t r b t' r' b') (F.r t r b t' r' b') (F.b t r b t' r' b') → Q (.ref u) H'
abbrev s__law_start : Stmt := top 17
theorem sc__law_start : FnScope ["script"] ["script"] (defScope s__law_start) := ⟨rfl, rfl, rfl, by decide +kernel, rfl, by decide +kernel, by decide +kernel⟩

def sp__law_start (Z : Zs) : Sp := fun vs H Q E =>
  ∃ (a : Addr) (ns : List Int), vs = [.ref a] ∧ SqL Z.K H a (ns.map V.int) ∧ ∀ p c H', H p = none → Same H H' → StA H' p c → Q (.ref p) H'
theorem ok__law_start (T : Txt Z mg)  (D : AtF Z.K mg "_law_start" "_law_start" s__law_start ["script"]) : Has P w Z.K mg base "_law_start" 1 ["script"] (sp__law_start Z) := by
  refine D.ok sc__law_start (fun vs H Q E h => ?_) (fun cdv A outer s H vs Q E hr h => ?_)
  · obtain ⟨a, ns, rfl, _⟩ := h
    rfl
  · refine ⟨_, (pss_one (ps_ret (pe_lst (pa_cons (pe_callTy cn_list rfl T.n_list (by decide +kernel) (pa_cons (pe_slice sl_list (pv 0) po_none (po_some pe_int)) pa_nil)) (pa_cons pe_int (pa_cons pe_int pa_nil)))))), ?_⟩
    try simp only [cxOf]
    obtain ⟨a, ns, rfl, hs, q⟩ := h
    walk_at "W"
    refine k_slL hs fun l H1 hl s1 e1 => ?_
    obtain ⟨ms, em⟩ := cut_ints ns none (some 63)
    rw [em] at e1
    walk_at "W"
    refine w_listL (SqL.of e1) fun l2 H2 hl2 s2 e2 => ?_
    walk_at "W"
    refine k_lst rfl fun p H3 hp s3 e3 => ?_
    exact q p l2 H3 ((s1.trans s2).free hp) (s1.trans (s2.trans s3)) ⟨ms, 0, 0, e3, s3 _ _ e2, fun z => (by rw [z] at e2; rw [hp] at e2; cases e2), by decide, by decide⟩
abbrev s__law_mixed : Stmt := top 18
theorem sc__law_mixed : FnScope ["cell", "count", "number"] ["cell", "count"] (defScope s__law_mixed) := ⟨rfl, rfl, rfl, by decide +kernel, rfl, by decide +kernel, by decide +kernel⟩

def sp__law_mixed (Z : Zs) : Sp := fun vs H Q E =>
  ∃ c n : Int, vs = [.int c, .int n] ∧ ∀ r : Int, 0 ≤ r → r < 2147483399 → Q (.int r) H
theorem ok__law_mixed (T : Txt Z mg)  (D : AtF Z.K mg "_law_mixed" "_law_mixed" s__law_mixed ["cell", "count"]) : Has P w Z.K mg base "_law_mixed" 1 ["cell", "count"] (sp__law_mixed Z) := by
  refine D.ok sc__law_mixed (fun vs H Q E h => ?_) (fun cdv A outer s H vs Q E hr h => ?_)
  · obtain ⟨c, n, rfl, _⟩ := h
    rfl
  · refine ⟨_, (pss_cons (ps_set (i := 2) sc__law_mixed.nd rfl (Or.inl rfl) (pe_op op_mod (pe_op op_mulS (pe_callTy cn_int rfl T.n_int (by decide +kernel) (pa_cons (pe_op op_add (pe_op op_add (pv 0) (pe_op op_mulS pe_int (pv 1))) pe_int) pa_nil)) pe_int) pe_int))
      (pss_cons (ps_set (i := 2) sc__law_mixed.nd rfl (Or.inl rfl) (pe_op op_mod (pe_op op_mulS (pv 2) (pe_op op_add (pe_op op_fdivW (pv 2) pe_int) pe_int)) pe_int))
      (pss_one (ps_ret (pe_op op_mod (pe_op op_mulS (pv 2) (pe_op op_add (pe_op op_fdivW (pv 2) pe_int) pe_int)) pe_int))))), ?_⟩
    try simp only [cxOf]
    obtain ⟨c, n, rfl, q⟩ := h
    walk_at "W"
    exact q _ (Int.emod_nonneg _ (by decide)) (Int.emod_lt_of_pos _ (by decide))
abbrev s__law_draw : Stmt := top 19
theorem sc__law_draw : FnScope ["state", "many", "digit", "cells", "at", "cell", "number", "turn"] ["state", "many"] (defScope s__law_draw) := ⟨rfl, rfl, rfl, by decide +kernel, rfl, by decide +kernel, by decide +kernel⟩

def sp__law_draw (Z : Zs) : Sp := fun vs H Q E =>
  ∃ p c many, vs = [.ref p, .int many] ∧ StA H p c ∧ 0 < many ∧ Bd many ∧ ∀ n H', 0 ≤ n → n < many → SameX p H H' → StA H' p c → Q (.int n) H'
theorem ok__law_draw (T : Txt Z mg) (h__law_mixed : Has P w Z.K mg base "_law_mixed" 1 ["cell", "count"] (sp__law_mixed Z)) (D : AtF Z.K mg "_law_draw" "_law_draw" s__law_draw ["state", "many"]) : Has P w Z.K mg base "_law_draw" 2 ["state", "many"] (sp__law_draw Z) := by
  refine D.ok sc__law_draw (fun vs H Q E h => ?_) (fun cdv A outer s H vs Q E hr h => ?_)
  · obtain ⟨p, c, many, rfl, _⟩ := h
    rfl
  · refine ⟨_, (pss_cons (ps_if (pt_cmpR op_gt (pe_ix ix_seq (pv 0) pe_int (fun _ _ => rfl)) pe_int (nomark _)) (pss_cons (ps_set (i := 2) sc__law_draw.nd rfl (Or.inl rfl) (pe_op op_mod (pe_callTy cn_int rfl T.n_int (by decide +kernel) (pa_cons (pe_ix ix_seq (pv 0) pe_int (fun _ _ => rfl)) pa_nil)) (pv 1)))
      (pss_cons (ps_asg (pe_op op_fdivW (pe_ix ix_seq (pv 0) pe_int (fun _ _ => rfl)) (pv 1)) (pg_sub (pv 0) pe_int set_list))
      (pss_one (ps_ret (pv 2))))) pss_nil)
      (pss_cons (ps_set (i := 3) sc__law_draw.nd rfl (Or.inl rfl) (pe_ix ix_seq (pv 0) pe_int (fun _ _ => rfl)))
      (pss_cons (ps_set (i := 4) sc__law_draw.nd rfl (Or.inl rfl) (pe_ix ix_seq (pv 0) pe_int (fun _ _ => rfl)))
      (pss_cons (ps_asg (pe_op op_add (pv 4) pe_int) (pg_sub (pv 0) pe_int set_list))
      (C8.pss_cut (ps_if (PW.pt (pw_and (pt_cmpR op_lt (pv 4) (pe_callB cn_len rfl T.n_len (by decide +kernel) (pa_cons (pv 3) pa_nil)) (nomark _)) (pw_and1 (pt_cmpR op_ge (pe_callB cn_abs rfl T.n_abs (by decide +kernel) (pa_cons (pe_ix ix_seq (pv 3) (pv 4) (fun _ _ => rfl)) pa_nil)) (pe_op op_pow pe_int pe_int) (nomark _))))) (pss_cons (ps_asg (pe_op op_fdivW (pe_callB cn_abs rfl T.n_abs (by decide +kernel) (pa_cons (pe_ix ix_seq (pv 3) (pv 4) (fun _ _ => rfl)) pa_nil)) (pv 1)) (pg_sub (pv 0) pe_int set_list))
      (pss_one (ps_ret (pe_op op_mod (pe_callTy cn_int rfl T.n_int (by decide +kernel) (pa_cons (pe_callB cn_abs rfl T.n_abs (by decide +kernel) (pa_cons (pe_ix ix_seq (pv 3) (pv 4) (fun _ _ => rfl)) pa_nil)) pa_nil)) (pv 1))))) pss_nil)
      (pss_cons (ps_set (i := 5) sc__law_draw.nd rfl (Or.inl rfl) pe_int)
      (C8.pss_cut (ps_if (pt_cmpR op_gt (pe_callB cn_len rfl T.n_len (by decide +kernel) (pa_cons (pv 3) pa_nil)) pe_int (nomark _)) (pss_one (ps_set (i := 5) sc__law_draw.nd rfl (Or.inl rfl) (pe_ix ix_seq (pv 3) (pe_op op_mod (pe_callTy cn_int rfl T.n_int (by decide +kernel) (pa_cons (pv 4) pa_nil)) (pe_callB cn_len rfl T.n_len (by decide +kernel) (pa_cons (pv 3) pa_nil))) (fun _ _ => rfl)))) pss_nil)
      (pss_cons (ps_set (i := 6) sc__law_draw.nd rfl (Or.inl rfl) (pe_h (E := ED E) h__law_mixed hr (paW (takes_of rfl rfl rfl rfl)) (pa_cons (pv 5) (pa_cons (pv 4) pa_nil))))
      (C8.pss_cut (ps_if (pt_cmpR op_gt (pv 1) pe_int (nomark _)) (pss_one (ps_for (passes_of rfl) rfl (pi_range1 rfl T.n_range (pa_cons pe_int pa_nil)) (pg_name (i := 7) sc__law_draw.nd rfl (Or.inl rfl)) (pss_one (ps_set (i := 6) sc__law_draw.nd rfl (Or.inl rfl) (pe_op op_add (pe_op op_mulS (pv 6) pe_int) (pe_h (E := ED E) h__law_mixed hr (paW (takes_of rfl rfl rfl rfl)) (pa_cons (pe_op op_add (pv 5) (pe_op op_mulS pe_int (pv 7))) (pa_cons (pe_op op_add (pe_op op_add (pe_op op_mulS pe_int (pv 4)) (pe_op op_mulS pe_int (pv 7))) pe_int) pa_nil)))))))) pss_nil)
      (pss_one (ps_ret (pe_op op_mod (pe_callTy cn_int rfl T.n_int (by decide +kernel) (pa_cons (pv 6) pa_nil)) (pv 1))))))))))))), ?_⟩
    try simp only [cxOf]
    obtain ⟨p, c, many, rfl, ⟨ns, at_, pend, hp, hc, cp, h0, h1⟩, hm, hmb, q⟩ := h
    have hdw : ∀ x : Int, CDivW x many := fun x => wide_div hm hmb (by decide) (by decide)
    walk_at "W"
    refine w_ite (fun hg => ?_) (fun hg => ?_)
    · walk_at "W"
      refine w_I (hdw _) ?_
      walk_at "W"
      refine w_setL hp rfl fun H1 s1 e1 => ?_
      walk_at "W"
      exact q _ _ (Int.emod_nonneg _ (by omega)) (Int.emod_lt_of_pos _ hm) s1 ⟨ns, at_, pend / many, e1, s1 _ _ cp hc, cp, h0, Int.ediv_nonneg h1 (by omega)⟩
    walk_at "W"
    refine w_setL hp rfl fun H1 s1 e1 => ?_
    have hc1 : H1 c = some (.lst (ns.map V.int)) := s1 _ _ cp hc
    have st1 : StA H1 p c := ⟨ns, at_ + 1, pend, e1, hc1, cp, by omega, h1⟩
    walk_at "W"
    refine w_cutE (σ' := [some (.ref p), some (.int many), none, some (.ref c), some (.int at_), none, none, none]) (H' := H1) ?_ ?_
    · walk_at "W"
      refine w_lenL (SqL.of hc1) ?_
      walk_at "W"
      refine w_ite (fun hl => ?_) (fun hl => ?_)
      · obtain ⟨z, hz⟩ := atI_ints (ns := ns) h0 (by simpa using hl)
        walk_at "W"
        refine w_ixL hc1 hz ?_
        walk_at "W"
        refine w_ite (fun _ => ?_) (fun _ => ?_)
        · walk_at "W"
          refine w_ixL hc1 hz ?_
          walk_at "W"
          refine w_I (hdw _) ?_
          walk_at "W"
          refine w_setL e1 rfl fun H2 s2 e2 => ?_
          walk_at "W"
          have hc2 : H2 c = some (.lst (ns.map V.int)) := s2 _ _ cp hc1
          refine w_ixL hc2 hz ?_
          walk_at "W"
          exact q _ _ (Int.emod_nonneg _ (by omega)) (Int.emod_lt_of_pos _ hm) (s1.trans s2) ⟨ns, at_ + 1, _, e2, hc2, cp, by omega, Int.ediv_nonneg (Int.natCast_nonneg _) (by omega)⟩
        · walk_at "W"
          exact ⟨rfl, rfl⟩
      · walk_at "W"
        exact ⟨rfl, rfl⟩
    walk_at "W"
    refine w_cut (fun σ' H' => H' = H1 ∧ ∃ z : Int, σ' = [some (.ref p), some (.int many), none, some (.ref c), some (.int at_), some (.int z), none, none]) ?_ ?_
    · walk_at "W"
      refine w_lenL (SqL.of hc1) ?_
      walk_at "W"
      refine w_ite (fun hl => ?_) (fun hl => ?_)
      · walk_at "W"
        refine w_lenL (SqL.of hc1) ?_
        walk_at "W"
        have hl' : 0 < (ns.length : Int) := by simpa using hl
        have hl2 : (0 : Int) < (((ns.map V.int).length : Nat) : Int) := by simpa using hl'
        obtain ⟨z, hz⟩ := atI_ints (ns := ns) (k := at_ % ((ns.map V.int).length : Int)) (Int.emod_nonneg _ (by rw [List.length_map]; omega)) (by have := Int.emod_lt_of_pos at_ (b := ((ns.map V.int).length : Int)) (by simpa using hl'); simpa using this)
        refine w_ixL hc1 hz ?_
        walk_at "W"
        exact ⟨rfl, z, rfl⟩
      · walk_at "W"
        exact ⟨rfl, 0, rfl⟩
    rintro σ1 H2 ⟨rfl, z, rfl⟩
    walk_at "W"
    refine ⟨z, at_, rfl, fun r hr0 hr1 => ?_⟩
    walk_at "W"
    refine w_cut (fun σ' H' => Same H2 H' ∧ ∃ (n : Int) (v : Option V), σ' = [some (.ref p), some (.int many), none, some (.ref c), some (.int at_), some (.int z), some (.int n), v]) ?_ ?_
    · walk_at "W"
      refine w_ite (fun _ => ?_) (fun _ => ?_)
      · walk_at "W"
        refine k_forR (fun _ σ' H' => Same H2 H' ∧ ∃ (n : Int) (v : Option V), σ' = [some (.ref p), some (.int many), none, some (.ref c), some (.int at_), some (.int z), some (.int n), v]) (by decide) (by decide) ⟨Same.refl _, r, none, rfl⟩ ?_ ?_
        · rintro i σ' H' hi ⟨s2, n, v, rfl⟩
          have hi7 : i < 7 := hi
          walk_at "W"
          refine ⟨_, _, rfl, fun r' _ _ => ?_⟩
          walk_at "W"
          exact ⟨s2, _, _, rfl⟩
        · rintro σ' H' ⟨s2, n, v, rfl⟩
          walk_at "W"
          exact ⟨s2, n, v, rfl⟩
      · walk_at "W"
        exact ⟨Same.refl _, r, none, rfl⟩
    rintro σ1 H3 ⟨s2, n, v, rfl⟩
    walk_at "W"
    exact q _ _ (Int.emod_nonneg _ (by omega)) (Int.emod_lt_of_pos _ hm) (s1.trans (Same.x s2)) (st1.same s2)
abbrev s__law_between : Stmt := top 20
theorem sc__law_between : FnScope ["state", "least", "most"] ["state", "least", "most"] (defScope s__law_between) := ⟨rfl, rfl, rfl, by decide +kernel, rfl, by decide +kernel, by decide +kernel⟩

def sp__law_between (Z : Zs) : Sp := fun vs H Q E =>
  ∃ p c lo hi, vs = [.ref p, .int lo, .int hi] ∧ StA H p c ∧ lo ≤ hi ∧ Bd (hi - lo + 1) ∧ ∀ n H', lo ≤ n → n ≤ hi → SameX p H H' → StA H' p c → Q (.int n) H'
theorem ok__law_between (T : Txt Z mg) (h__law_draw : Has P w Z.K mg base "_law_draw" 2 ["state", "many"] (sp__law_draw Z)) (D : AtF Z.K mg "_law_between" "_law_between" s__law_between ["state", "least", "most"]) : Has P w Z.K mg base "_law_between" 3 ["state", "least", "most"] (sp__law_between Z) := by
  refine D.ok sc__law_between (fun vs H Q E h => ?_) (fun cdv A outer s H vs Q E hr h => ?_)
  · obtain ⟨p, c, lo, hi, rfl, _⟩ := h
    rfl
  · refine ⟨_, (pss_one (ps_ret (pe_op op_add (pv 1) (pe_h (E := ED E) h__law_draw hr (paW (takes_of rfl rfl rfl rfl)) (pa_cons (pv 0) (pa_cons (pe_op op_add (pe_op op_sub (pv 2) (pv 1)) pe_int) pa_nil)))))), ?_⟩
    try simp only [cxOf]
    obtain ⟨p, c, lo, hi, rfl, hs, hl, hb, q⟩ := h
    walk_at "W"
    refine ⟨p, c, _, rfl, hs, by omega, hb, fun n H' h0 h1 s1 st => ?_⟩
    walk_at "W"
    exact q _ H' (by omega) (by omega) s1 st
-- needs W9
local macro_rules | `(tactic| walk_at "s") => `(tactic| first | with_reducible refine L2.My.w_chain ?_ | with_reducible refine L2.My.w_lcTT ?_ | with_reducible refine L2.My.w_forZT ?_ | with_reducible refine L2.My.w_bm ?_)
/-- four ints -/
structure C4 where
  a : Int
  b : Int
  c : Int
  d : Int
def C4.vs (c : C4) : List V := [.int c.a, .int c.b, .int c.c, .int c.d]
def CorAt (H : Hp) (v : V) (c : C4) : Prop := ∃ p, v = .ref p ∧ H p = some (.tup [.int c.a, .int c.b, .int c.c, .int c.d])
theorem CorAt.same {H H' : Hp} {v : V} {c : C4} (h : CorAt H v c) (s : Same H H') : CorAt H' v c := by
  obtain ⟨p, rfl, e⟩ := h
  exact ⟨p, rfl, s _ _ e⟩
theorem CorAt.kps {H H' : Hp} {v : V} {c : C4} (h : CorAt H v c) (s : Kps H H') : CorAt H' v c := by
  obtain ⟨p, rfl, e⟩ := h
  exact ⟨p, rfl, s.tup e⟩
def isCor (xs : List V) : Bool := decide (xs.length = 4) && xs.all isI
/-- a thing that is no corner -/
def BadCor (Z : Zs) (H : Hp) (v : V) : Prop := (Plain H v ∧ isTu H v = false) ∨ ∃ p xs, v = .ref p ∧ H p = some (.tup xs) ∧ xs.length ≤ 500 ∧ (∀ x ∈ xs, ThI Z H x) ∧ isCor xs = false
theorem isTu_same {H H' : Hp} {v : V} (h : Plain H v) (s : Same H H') : isTu H' v = isTu H v := by
  cases h with
  | lst a xs e => rw [isTu_lst e, isTu_lst (s _ _ e)]
  | tup a xs e => rw [isTu_tup e, isTu_tup (s _ _ e)]
  | _ => rfl
theorem BadCor.same {Z : Zs} {H H' : Hp} {v : V} (h : BadCor Z H v) (s : Same H H') : BadCor Z H' v := by
  rcases h with ⟨a, b⟩ | ⟨p, xs, rfl, e, l, x, c⟩
  · exact .inl ⟨a.same s, (isTu_same a s).trans b⟩
  · exact .inr ⟨p, xs, rfl, s _ _ e, l, fun y hy => thI_same (x y hy) s, c⟩
/-- an own error of the class C with o in its field f -/
def ErX (C : Addr) (f : Str) (o : V) (H : Hp) (E : XK) : Prop := ∀ d H', H d = none → Same H H' → H' d = some (.xd [(f, o)]) → E (.ref C) (some d) H'
theorem ErX.same {C : Addr} {f : Str} {o : V} {H H' : Hp} {E : XK} (h : ErX C f o H E) (s : Same H H') : ErX C f o H' E := fun d H2 hd s2 e => h d H2 (s.free hd) (s.trans s2) e
theorem dec_len {n k : Nat} : decide (V.int ((n : Nat) : Int) = V.int (k : Int)) = decide (n = k) := decide_eq_decide.mpr ⟨fun h => by injection h with h; omega, fun h => by rw [h]⟩
abbrev s_is_corner : Stmt := top 7
theorem sc_is_corner : FnScope ["thing", "part"] ["thing"] (defScope s_is_corner) := ⟨rfl, rfl, rfl, by decide +kernel, rfl, by decide +kernel, by decide +kernel⟩

def sp_is_corner (Z : Zs) : Sp := fun vs H Q E =>
  ∃ v, vs = [v] ∧ ((Plain H v ∧ isTu H v = false ∧ Q (.bl false) H) ∨ ∃ p xs, v = .ref p ∧ H p = some (.tup xs) ∧ xs.length ≤ 500 ∧ (∀ x ∈ xs, ThI Z H x) ∧ ∀ H', Same H H' → Q (.bl (isCor xs)) H')
theorem ok_is_corner (T : Txt Z mg) (h_is_integral : Has P w Z.K mg base "is_integral" 1 ["thing"] (sp_is_integral Z)) (D : AtF Z.K mg "is_corner" "is_corner" s_is_corner ["thing"]) : Has P w Z.K mg base "is_corner" 2 ["thing"] (sp_is_corner Z) := by
  refine D.ok sc_is_corner (fun vs H Q E h => ?_) (fun cdv A outer s H vs Q E hr h => ?_)
  · obtain ⟨v, rfl, _⟩ := h
    rfl
  · refine ⟨_, (pss_one (ps_ret (pe_and (pe_callB call_isi rfl T.n_isinstance (by decide +kernel) (pa_cons (pv 0) (pa_cons (pe_bltn (v := .ty "tuple") rfl T.n_tuple (by decide +kernel) rfl) pa_nil))) (pe_and (pe_cmpR op_eq (pe_callB cn_len rfl T.n_len (by decide +kernel) (pa_cons (pv 0) pa_nil)) pe_int (nomark _)) (pe_one (pe_callB (cr_all rfl) rfl T.n_all (by decide +kernel) (pa_cons (pe_lc (own := [("part", 1)]) (g := gName 1) rfl sc_is_corner.nd (pi_tup (pv 0)) (blkOk_by (N := ["thing", "part"]) (sc := defScope s_is_corner) (by decide +kernel)) (fun _ _ _ _ _ => pg_name (i := 1) sc_is_corner.nd rfl (Or.inl rfl)) (fun _ _ _ _ _ => pts_nil) (fun _ _ _ _ _ => (pe_h (E := fun _ => E0) h_is_integral hr pa0 (pa_cons (pv 1) pa_nil)))) pa_nil))))))), ?_⟩
    try simp only [cxOf]
    obtain ⟨v, rfl, ⟨pl, nt, q⟩ | ⟨p, xs, rfl, ha, hl, hx, q⟩⟩ := h
    · obtain ⟨t, ty, _, _, k⟩ := pl.ty (K := Z.K)
      rw [nt] at k
      walk_at "W"
      refine w_isi ty k ?_
      walk_at "W"
      exact q
    · obtain ⟨t, ty, _, _, k⟩ := (Plain.tup p xs ha).ty (K := Z.K)
      rw [isTu_tup ha] at k
      walk_at "W"
      refine w_isi ty k ?_
      walk_at "W"
      refine w_lenT (SqT.of ha) ?_
      walk_at "W"
      rw [show decide (V.int ((xs.length : Nat) : Int) = V.int 4) = decide (xs.length = 4) from dec_len (k := 4)]
      cases e : decide (xs.length = 4)
      · walk_at "W"
        have q1 := q H (Same.refl _)
        unfold isCor at q1
        rw [e] at q1
        exact q1
      · walk_at "W"
        refine k_lcFlags (f := isI) ha hl (fun _ => rfl) (fun x H' hxm s N k => ?_) (fun D H' hD s e2 => ?_)
        · walk_at "W"
          exact ⟨x, rfl, thI_same (hx x hxm) s, k⟩
        · walk_at "W"
          refine w_all (SqL.of e2) ?_
          have q1 := q H' s
          unfold isCor at q1
          rw [e] at q1
          rw [show (xs.map isI).all id = xs.all isI from by rw [List.all_map]; rfl]
          exact q1
abbrev s_check_corner : Stmt := top 8
theorem sc_check_corner : FnScope ["corner"] ["corner"] (defScope s_check_corner) := ⟨rfl, rfl, rfl, by decide +kernel, rfl, by decide +kernel, by decide +kernel⟩

def sp_check_corner (Z : Zs) : Sp := fun vs H Q E =>
  ∃ v, vs = [v] ∧ ((∃ c, CorAt H v c) ∧ (∀ H', Same H H' → Q .non H') ∨ BadCor Z H v ∧ ErX Z.c_BadCorner "corner" v H E)
theorem ok_check_corner (T : Txt Z mg) (h_is_corner : Has P w Z.K mg base "is_corner" 2 ["thing"] (sp_is_corner Z)) (h_BadCorner : HasX P w Z.K mg base "BadCorner" Z.c_BadCorner 1 ["self", "corner"] (sp_BadCorner_init Z)) (D : AtF Z.K mg "check_corner" "check_corner" s_check_corner ["corner"]) : Has P w Z.K mg base "check_corner" 3 ["corner"] (sp_check_corner Z) := by
  refine D.ok sc_check_corner (fun vs H Q E h => ?_) (fun cdv A outer s H vs Q E hr h => ?_)
  · obtain ⟨v, rfl, _⟩ := h
    rfl
  · refine ⟨_, (pss_one (ps_if (pt_not (pt_val (pe_h (E := ED E) h_is_corner hr (paW (takes_of rfl rfl rfl rfl)) (pa_cons (pv 0) pa_nil)))) (pss_one (ps_raise rfl (takes_of rfl rfl rfl rfl) (pm_h T.x_BadCorner h_BadCorner hr (pa_cons (pv 0) pa_nil)))) pss_nil)), ?_⟩
    try simp only [cxOf]
    obtain ⟨v, rfl, ⟨⟨c, p, rfl, hp⟩, q⟩ | ⟨b, er⟩⟩ := h
    · walk_at "W"
      refine ⟨_, rfl, .inr ⟨p, _, rfl, hp, by simp, fun x hx => ?_, fun H' s => ?_⟩⟩
      · simp only [List.mem_cons, List.not_mem_nil, or_false] at hx
        rcases hx with rfl | rfl | rfl | rfl <;> exact (Plain.int _).thI
      · walk_at "W"
        exact q H' s
    · walk_at "W"
      rcases b with ⟨pl, nt⟩ | ⟨p, xs, rfl, hp, hl, hx, ic⟩
      · refine ⟨_, rfl, .inl ⟨pl, nt, ?_⟩⟩
        walk_at "W"
        exact k_mkO fun d H2 hd s4 e4 => er d H2 hd s4 e4
      · refine ⟨_, rfl, .inr ⟨p, xs, rfl, hp, hl, hx, fun H' s => ?_⟩⟩
        rw [ic]
        walk_at "W"
        exact k_mkO fun d H2 hd s4 e4 => er d H2 (s.free hd) (s.trans s4) e4
abbrev s_is_direction : Stmt := top 9
theorem sc_is_direction : FnScope ["thing"] ["thing"] (defScope s_is_direction) := ⟨rfl, rfl, rfl, by decide +kernel, rfl, by decide +kernel, by decide +kernel⟩

def sp_is_direction (Z : Zs) : Sp := fun vs H Q E =>
  ∃ v, vs = [v] ∧ ThI Z H v ∧ ((∃ i, v = .int i ∧ Q (.bl (decide (0 ≤ i ∧ i ≤ 7))) H) ∨ isI v = false ∧ Q (.bl false) H)
theorem ok_is_direction (T : Txt Z mg) (h_is_integral : Has P w Z.K mg base "is_integral" 1 ["thing"] (sp_is_integral Z)) (D : AtF Z.K mg "is_direction" "is_direction" s_is_direction ["thing"]) : Has P w Z.K mg base "is_direction" 2 ["thing"] (sp_is_direction Z) := by
  refine D.ok sc_is_direction (fun vs H Q E h => ?_) (fun cdv A outer s H vs Q E hr h => ?_)
  · obtain ⟨v, rfl, _⟩ := h
    rfl
  · refine ⟨_, (pss_one (ps_ret (pe_and (pe_h (E := ED E) h_is_integral hr (paW (takes_of rfl rfl rfl rfl)) (pa_cons (pv 0) pa_nil)) (pe_one (pe_chain op_le op_le pe_int (pv 0) pe_int))))), ?_⟩
    try simp only [cxOf]
    obtain ⟨v, rfl, th, ⟨i, rfl, q⟩ | ⟨e, q⟩⟩ := h
    · walk_at "W"
      refine ⟨_, rfl, th, ?_⟩
      walk_at "W"
      refine w_ite (fun h1 => ?_) (fun h1 => ?_)
      · walk_at "W"
        rw [show decide (0 ≤ i ∧ i ≤ 7) = decide (i ≤ 7) from decide_eq_decide.mpr ⟨fun h => h.2, fun h => ⟨h1, h⟩⟩] at q
        exact q
      · rw [decide_eq_false (fun h => h1 h.1)] at q
        exact q
    · walk_at "W"
      refine ⟨_, rfl, th, ?_⟩
      rw [e]
      walk_at "W"
      exact q
def C4.plus (c : C4) (k s : Int) : C4 := if k = 0 then ⟨c.a + s, c.b, c.c, c.d⟩ else if k = 1 then ⟨c.a, c.b + s, c.c, c.d⟩ else if k = 2 then ⟨c.a, c.b, c.c + s, c.d⟩ else ⟨c.a, c.b, c.c, c.d + s⟩
def stepC (c : C4) (d m : Int) : C4 := c.plus (d % 4) (if d < 4 then m else -m)
theorem dir_cases {d : Int} (h0 : 0 ≤ d) (h7 : d ≤ 7) : d = 0 ∨ d = 1 ∨ d = 2 ∨ d = 3 ∨ d = 4 ∨ d = 5 ∨ d = 6 ∨ d = 7 := by omega
abbrev s_step : Stmt := top 10
theorem sc_step : FnScope ["corner", "direction", "many", "parts", "at"] ["corner", "direction", "many"] (defScope s_step) := ⟨rfl, rfl, rfl, by decide +kernel, rfl, by decide +kernel, by decide +kernel⟩

def sp_step (Z : Zs) : Sp := fun vs H Q E =>
  ∃ v c d m, vs = [v, .int d, .int m] ∧ CorAt H v c ∧ 0 ≤ d ∧ d ≤ 7 ∧ ∀ v' H', Same H H' → CorAt H' v' (stepC c d m) → Q v' H'
theorem ok_step (T : Txt Z mg)  (D : AtF Z.K mg "step" "step" s_step ["corner", "direction", "many"]) : Has P w Z.K mg base "step" 1 ["corner", "direction", "many"] (sp_step Z) := by
  refine D.ok sc_step (fun vs H Q E h => ?_) (fun cdv A outer s H vs Q E hr h => ?_)
  · obtain ⟨v, c, d, m, rfl, _⟩ := h
    rfl
  · refine ⟨_, (pss_cons (ps_set (i := 3) sc_step.nd rfl (Or.inl rfl) (pe_callTy cn_list rfl T.n_list (by decide +kernel) (pa_cons (pv 0) pa_nil)))
      (pss_cons (ps_set (i := 4) sc_step.nd rfl (Or.inl rfl) (pe_op op_mod (pv 1) pe_int))
      (pss_cons (ps_if (pt_cmpR op_lt (pv 1) pe_int (nomark _)) (pss_one (ps_asg (pe_op op_add (pe_ix ix_seq (pv 3) (pv 4) (fun _ _ => rfl)) (pv 2)) (pg_sub (pv 3) (pv 4) set_list))) (pss_one (ps_asg (pe_op op_sub (pe_ix ix_seq (pv 3) (pv 4) (fun _ _ => rfl)) (pv 2)) (pg_sub (pv 3) (pv 4) set_list))))
      (pss_one (ps_ret (pe_callTy cn_tuple rfl T.n_tuple (by decide +kernel) (pa_cons (pv 3) pa_nil))))))), ?_⟩
    try simp only [cxOf]
    obtain ⟨v, c, d, m, rfl, ⟨p, rfl, hp⟩, h0, h7, q⟩ := h
    walk_at "W"
    refine w_listT (SqT.of hp) fun l H1 hl s1 e1 => ?_
    have fin : ∀ {x y z u : Int} {H2 : Hp}, SameX l H1 H2 → H2 l = some (.lst [.int x, .int y, .int z, .int u]) → (⟨x, y, z, u⟩ : C4) = stepC c d m → rTupOf Z.K [.ref l] H2 Q := fun {x y z u H2} s2 e2 e => by
      refine w_tupL e2 fun t H3 ht s3 e3 => ?_
      have S : Same H H3 := fun b o eb => s3 _ _ (s2 b o (ne_of_none eb hl) (s1 _ _ eb))
      refine q _ H3 S ?_
      rw [← e]
      exact ⟨t, rfl, e3⟩
    walk_at "W"
    rcases dir_cases h0 h7 with rfl | rfl | rfl | rfl | rfl | rfl | rfl | rfl
    all_goals
      walk_at "W"
      refine w_setL e1 rfl fun H2 s2 e2 => ?_
      walk_at "W"
      exact fin s2 e2 (by simp [stepC, C4.plus, Int.sub_eq_add_neg])
abbrev s_stepped : Stmt := top 11
theorem sc_stepped : FnScope ["corner", "direction", "many"] ["corner", "direction", "many"] (defScope s_stepped) := ⟨rfl, rfl, rfl, by decide +kernel, rfl, by decide +kernel, by decide +kernel⟩

def sp_stepped (Z : Zs) : Sp := fun vs H Q E =>
  ∃ v d c m, vs = [v, d, .int m] ∧ (BadCor Z H v ∧ ErX Z.c_BadCorner "corner" v H E ∨ CorAt H v c ∧ ThI Z H d ∧ (isI d = false ∧ ErX Z.c_BadDirection "direction" d H E ∨ ∃ i, d = .int i ∧ (¬ (0 ≤ i ∧ i ≤ 7) ∧ ErX Z.c_BadDirection "direction" d H E ∨ (0 ≤ i ∧ i ≤ 7) ∧ ∀ v' H', Same H H' → CorAt H' v' (stepC c i m) → Q v' H')))
theorem ok_stepped (T : Txt Z mg) (h_step : Has P w Z.K mg base "step" 1 ["corner", "direction", "many"] (sp_step Z)) (h_is_direction : Has P w Z.K mg base "is_direction" 2 ["thing"] (sp_is_direction Z)) (h_BadDirection : HasX P w Z.K mg base "BadDirection" Z.c_BadDirection 1 ["self", "direction"] (sp_BadDirection_init Z)) (h_check_corner : Has P w Z.K mg base "check_corner" 3 ["corner"] (sp_check_corner Z)) (D : AtF Z.K mg "stepped" "stepped" s_stepped ["corner", "direction", "many"]) : Has P w Z.K mg base "stepped" 4 ["corner", "direction", "many"] (sp_stepped Z) := by
  refine D.ok sc_stepped (fun vs H Q E h => ?_) (fun cdv A outer s H vs Q E hr h => ?_)
  · obtain ⟨v, d, c, m, rfl, _⟩ := h
    rfl
  · refine ⟨_, (pss_cons (ps_expr (pe_h (E := ED E) h_check_corner hr (paW (takes_of rfl rfl rfl rfl)) (pa_cons (pv 0) pa_nil)))
      (pss_cons (ps_if (pt_not (pt_val (pe_h (E := ED E) h_is_direction hr (paW (takes_of rfl rfl rfl rfl)) (pa_cons (pv 1) pa_nil)))) (pss_one (ps_raise rfl (takes_of rfl rfl rfl rfl) (pm_h T.x_BadDirection h_BadDirection hr (pa_cons (pv 1) pa_nil)))) pss_nil)
      (pss_one (ps_ret (pe_h (E := ED E) h_step hr (paW (takes_of rfl rfl rfl rfl)) (pa_cons (pv 0) (pa_cons (pv 1) (pa_cons (pv 2) pa_nil)))))))), ?_⟩
    try simp only [cxOf]
    obtain ⟨v, d, c, m, rfl, ⟨b, er⟩ | ⟨hc, hd, hh⟩⟩ := h
    · walk_at "W"
      exact ⟨_, rfl, .inr ⟨b, er⟩⟩
    walk_at "W"
    refine ⟨_, rfl, .inl ⟨⟨c, hc⟩, fun H1 s1 => ?_⟩⟩
    walk_at "W"
    rcases hh with ⟨e, er⟩ | ⟨i, rfl, ⟨n, er⟩ | ⟨y, q⟩⟩
    · refine ⟨_, rfl, thI_same hd s1, .inr ⟨e, ?_⟩⟩
      walk_at "W"
      exact k_mkO (er.same s1)
    · refine ⟨_, rfl, thI_same hd s1, .inl ⟨i, rfl, ?_⟩⟩
      rw [decide_eq_false n]
      walk_at "W"
      exact k_mkO (er.same s1)
    · refine ⟨_, rfl, thI_same hd s1, .inl ⟨i, rfl, ?_⟩⟩
      rw [decide_eq_true y]
      walk_at "W"
      exact ⟨v, c, i, m, rfl, hc.same s1, y.1, y.2, fun v' H2 s2 h2 => q v' H2 (s1.trans s2) h2⟩
def turn1 (c : C4) : C4 := ⟨-c.d, c.a, c.b, c.c⟩
def turnC : Nat → C4 → C4
  | 0, c => c
  | n + 1, c => turn1 (turnC n c)
def mirC (c : C4) : C4 := ⟨c.a, -c.d, -c.c, -c.b⟩
def greC (c : C4) : C4 := ⟨c.a + c.b - c.d, c.b + c.a + c.c, c.c + c.b + c.d, c.d - c.a + c.c⟩
def lesC (c : C4) : C4 := ⟨c.b - c.d - c.a, c.a + c.c - c.b, c.b + c.d - c.c, c.c - c.a - c.d⟩
def spCor (Z : Zs) (f : C4 → C4) : Sp := fun vs H Q E => ∃ v, vs = [v] ∧ ((∃ c, CorAt H v c ∧ ∀ v' H', Same H H' → CorAt H' v' (f c) → Q v' H') ∨ BadCor Z H v ∧ ErX Z.c_BadCorner "corner" v H E)
abbrev s_turned : Stmt := top 12
theorem sc_turned : FnScope ["corner", "eighths", "x0", "x1", "x2", "x3", "_"] ["corner", "eighths"] (defScope s_turned) := ⟨rfl, rfl, rfl, by decide +kernel, rfl, by decide +kernel, by decide +kernel⟩

def sp_turned (Z : Zs) : Sp := fun vs H Q E =>
  ∃ v e, vs = [v, .int e] ∧ ((∃ c, CorAt H v c ∧ ∀ v' H', Same H H' → CorAt H' v' (turnC (e % 8).toNat c) → Q v' H') ∨ BadCor Z H v ∧ ErX Z.c_BadCorner "corner" v H E)
theorem ok_turned (T : Txt Z mg) (h_check_corner : Has P w Z.K mg base "check_corner" 3 ["corner"] (sp_check_corner Z)) (D : AtF Z.K mg "turned" "turned" s_turned ["corner", "eighths"]) : Has P w Z.K mg base "turned" 4 ["corner", "eighths"] (sp_turned Z) := by
  refine D.ok sc_turned (fun vs H Q E h => ?_) (fun cdv A outer s H vs Q E hr h => ?_)
  · obtain ⟨v, e, rfl, _⟩ := h
    rfl
  · refine ⟨_, (pss_cons (ps_expr (pe_h (E := ED E) h_check_corner hr (paW (takes_of rfl rfl rfl rfl)) (pa_cons (pv 0) pa_nil)))
      (pss_cons (ps_asg (pv 0) (pg_tup rfl (pgs_cons (pg_name (i := 2) sc_turned.nd rfl (Or.inl rfl)) (pgs_cons (pg_name (i := 3) sc_turned.nd rfl (Or.inl rfl)) (pgs_cons (pg_name (i := 4) sc_turned.nd rfl (Or.inl rfl)) (pgs_cons (pg_name (i := 5) sc_turned.nd rfl (Or.inl rfl)) pgs_nil))))))
      (pss_cons (ps_for (passes_of rfl) rfl (pi_range1 rfl T.n_range (pa_cons (pe_op op_mod (pv 1) pe_int) pa_nil)) (pg_name (i := 6) sc_turned.nd rfl (Or.inl rfl)) (pss_one (ps_asg (pe_tup (pa_cons (pe_un un_neg (pv 5)) (pa_cons (pv 2) (pa_cons (pv 3) (pa_cons (pv 4) pa_nil))))) (pg_tup rfl (pgs_cons (pg_name (i := 2) sc_turned.nd rfl (Or.inl rfl)) (pgs_cons (pg_name (i := 3) sc_turned.nd rfl (Or.inl rfl)) (pgs_cons (pg_name (i := 4) sc_turned.nd rfl (Or.inl rfl)) (pgs_cons (pg_name (i := 5) sc_turned.nd rfl (Or.inl rfl)) pgs_nil))))))))
      (pss_one (ps_ret (pe_tup (pa_cons (pv 2) (pa_cons (pv 3) (pa_cons (pv 4) (pa_cons (pv 5) pa_nil)))))))))), ?_⟩
    try simp only [cxOf]
    obtain ⟨v, e, rfl, ⟨c, hc, q⟩ | ⟨b, er⟩⟩ := h
    · walk_at "W"
      refine ⟨_, rfl, .inl ⟨⟨c, hc⟩, fun H1 s1 => ?_⟩⟩
      obtain ⟨p, rfl, hp⟩ := hc.same s1
      walk_at "W"
      refine k_tup4 hp rfl rfl ?_
      walk_at "W"
      refine k_forR (fun i σ' H' => Same H1 H' ∧ ∃ x, σ' = [some (.ref p), some (.int e), some (.int (turnC i c).a), some (.int (turnC i c).b), some (.int (turnC i c).c), some (.int (turnC i c).d), x]) (by omega) (by omega) ⟨Same.refl _, none, rfl⟩ ?_ ?_
      · rintro i σ' H' hi ⟨s2, x, rfl⟩
        walk_at "W"
        refine k_tup rfl fun u H2 hu s3 e3 => ?_
        refine k_tup4 e3 rfl rfl ?_
        walk_at "W"
        exact ⟨s2.trans s3, _, rfl⟩
      · rintro σ' H' ⟨s2, x, rfl⟩
        walk_at "W"
        exact k_tup rfl fun u H2 hu s3 e3 => q _ H2 (s1.trans (s2.trans s3)) ⟨u, rfl, e3⟩
    · walk_at "W"
      exact ⟨_, rfl, .inr ⟨b, er⟩⟩
abbrev s_mirrored : Stmt := top 13
theorem sc_mirrored : FnScope ["corner", "x0", "x1", "x2", "x3"] ["corner"] (defScope s_mirrored) := ⟨rfl, rfl, rfl, by decide +kernel, rfl, by decide +kernel, by decide +kernel⟩

def sp_mirrored (Z : Zs) : Sp := fun vs H Q E =>
  spCor Z mirC vs H Q E
theorem ok_mirrored (T : Txt Z mg) (h_check_corner : Has P w Z.K mg base "check_corner" 3 ["corner"] (sp_check_corner Z)) (D : AtF Z.K mg "mirrored" "mirrored" s_mirrored ["corner"]) : Has P w Z.K mg base "mirrored" 4 ["corner"] (sp_mirrored Z) := by
  refine D.ok sc_mirrored (fun vs H Q E h => ?_) (fun cdv A outer s H vs Q E hr h => ?_)
  · obtain ⟨v, rfl, _⟩ := h
    rfl
  · refine ⟨_, (pss_cons (ps_expr (pe_h (E := ED E) h_check_corner hr (paW (takes_of rfl rfl rfl rfl)) (pa_cons (pv 0) pa_nil)))
      (pss_cons (ps_asg (pv 0) (pg_tup rfl (pgs_cons (pg_name (i := 1) sc_mirrored.nd rfl (Or.inl rfl)) (pgs_cons (pg_name (i := 2) sc_mirrored.nd rfl (Or.inl rfl)) (pgs_cons (pg_name (i := 3) sc_mirrored.nd rfl (Or.inl rfl)) (pgs_cons (pg_name (i := 4) sc_mirrored.nd rfl (Or.inl rfl)) pgs_nil))))))
      (pss_one (ps_ret (pe_tup (pa_cons (pv 1) (pa_cons (pe_un un_neg (pv 4)) (pa_cons (pe_un un_neg (pv 3)) (pa_cons (pe_un un_neg (pv 2)) pa_nil))))))))), ?_⟩
    try simp only [cxOf]
    obtain ⟨v, rfl, ⟨c, hc, q⟩ | ⟨b, er⟩⟩ := h
    · walk_at "W"
      refine ⟨_, rfl, .inl ⟨⟨c, hc⟩, fun H1 s1 => ?_⟩⟩
      obtain ⟨p, rfl, hp⟩ := hc.same s1
      walk_at "W"
      refine k_tup4 hp rfl rfl ?_
      walk_at "W"
      exact k_tup rfl fun u H2 hu s3 e3 => q _ H2 (s1.trans s3) ⟨u, rfl, e3⟩
    · walk_at "W"
      exact ⟨_, rfl, .inr ⟨b, er⟩⟩
abbrev s_greater : Stmt := top 14
theorem sc_greater : FnScope ["corner", "x0", "x1", "x2", "x3"] ["corner"] (defScope s_greater) := ⟨rfl, rfl, rfl, by decide +kernel, rfl, by decide +kernel, by decide +kernel⟩

def sp_greater (Z : Zs) : Sp := fun vs H Q E =>
  spCor Z greC vs H Q E
theorem ok_greater (T : Txt Z mg) (h_check_corner : Has P w Z.K mg base "check_corner" 3 ["corner"] (sp_check_corner Z)) (D : AtF Z.K mg "greater" "greater" s_greater ["corner"]) : Has P w Z.K mg base "greater" 4 ["corner"] (sp_greater Z) := by
  refine D.ok sc_greater (fun vs H Q E h => ?_) (fun cdv A outer s H vs Q E hr h => ?_)
  · obtain ⟨v, rfl, _⟩ := h
    rfl
  · refine ⟨_, (pss_cons (ps_expr (pe_h (E := ED E) h_check_corner hr (paW (takes_of rfl rfl rfl rfl)) (pa_cons (pv 0) pa_nil)))
      (pss_cons (ps_asg (pv 0) (pg_tup rfl (pgs_cons (pg_name (i := 1) sc_greater.nd rfl (Or.inl rfl)) (pgs_cons (pg_name (i := 2) sc_greater.nd rfl (Or.inl rfl)) (pgs_cons (pg_name (i := 3) sc_greater.nd rfl (Or.inl rfl)) (pgs_cons (pg_name (i := 4) sc_greater.nd rfl (Or.inl rfl)) pgs_nil))))))
      (pss_one (ps_ret (pe_tup (pa_cons (pe_op op_sub (pe_op op_add (pv 1) (pv 2)) (pv 4)) (pa_cons (pe_op op_add (pe_op op_add (pv 2) (pv 1)) (pv 3)) (pa_cons (pe_op op_add (pe_op op_add (pv 3) (pv 2)) (pv 4)) (pa_cons (pe_op op_add (pe_op op_sub (pv 4) (pv 1)) (pv 3)) pa_nil))))))))), ?_⟩
    try simp only [cxOf]
    obtain ⟨v, rfl, ⟨c, hc, q⟩ | ⟨b, er⟩⟩ := h
    · walk_at "W"
      refine ⟨_, rfl, .inl ⟨⟨c, hc⟩, fun H1 s1 => ?_⟩⟩
      obtain ⟨p, rfl, hp⟩ := hc.same s1
      walk_at "W"
      refine k_tup4 hp rfl rfl ?_
      walk_at "W"
      exact k_tup rfl fun u H2 hu s3 e3 => q _ H2 (s1.trans s3) ⟨u, rfl, e3⟩
    · walk_at "W"
      exact ⟨_, rfl, .inr ⟨b, er⟩⟩
abbrev s_lesser : Stmt := top 15
theorem sc_lesser : FnScope ["corner", "x0", "x1", "x2", "x3"] ["corner"] (defScope s_lesser) := ⟨rfl, rfl, rfl, by decide +kernel, rfl, by decide +kernel, by decide +kernel⟩

def sp_lesser (Z : Zs) : Sp := fun vs H Q E =>
  spCor Z lesC vs H Q E
theorem ok_lesser (T : Txt Z mg) (h_check_corner : Has P w Z.K mg base "check_corner" 3 ["corner"] (sp_check_corner Z)) (D : AtF Z.K mg "lesser" "lesser" s_lesser ["corner"]) : Has P w Z.K mg base "lesser" 4 ["corner"] (sp_lesser Z) := by
  refine D.ok sc_lesser (fun vs H Q E h => ?_) (fun cdv A outer s H vs Q E hr h => ?_)
  · obtain ⟨v, rfl, _⟩ := h
    rfl
  · refine ⟨_, (pss_cons (ps_expr (pe_h (E := ED E) h_check_corner hr (paW (takes_of rfl rfl rfl rfl)) (pa_cons (pv 0) pa_nil)))
      (pss_cons (ps_asg (pv 0) (pg_tup rfl (pgs_cons (pg_name (i := 1) sc_lesser.nd rfl (Or.inl rfl)) (pgs_cons (pg_name (i := 2) sc_lesser.nd rfl (Or.inl rfl)) (pgs_cons (pg_name (i := 3) sc_lesser.nd rfl (Or.inl rfl)) (pgs_cons (pg_name (i := 4) sc_lesser.nd rfl (Or.inl rfl)) pgs_nil))))))
      (pss_one (ps_ret (pe_tup (pa_cons (pe_op op_sub (pe_op op_sub (pv 2) (pv 4)) (pv 1)) (pa_cons (pe_op op_sub (pe_op op_add (pv 1) (pv 3)) (pv 2)) (pa_cons (pe_op op_sub (pe_op op_add (pv 2) (pv 4)) (pv 3)) (pa_cons (pe_op op_sub (pe_op op_sub (pv 3) (pv 1)) (pv 4)) pa_nil))))))))), ?_⟩
    try simp only [cxOf]
    obtain ⟨v, rfl, ⟨c, hc, q⟩ | ⟨b, er⟩⟩ := h
    · walk_at "W"
      refine ⟨_, rfl, .inl ⟨⟨c, hc⟩, fun H1 s1 => ?_⟩⟩
      obtain ⟨p, rfl, hp⟩ := hc.same s1
      walk_at "W"
      refine k_tup4 hp rfl rfl ?_
      walk_at "W"
      exact k_tup rfl fun u H2 hu s3 e3 => q _ H2 (s1.trans s3) ⟨u, rfl, e3⟩
    · walk_at "W"
      exact ⟨_, rfl, .inr ⟨b, er⟩⟩

abbrev s__law_plus : Stmt := top 21
theorem sc__law_plus : FnScope ["one", "other"] ["one", "other"] (defScope s__law_plus) := ⟨rfl, rfl, rfl, by decide +kernel, rfl, by decide +kernel, by decide +kernel⟩

def sp__law_plus (Z : Zs) : Sp := fun vs H Q E =>
  spTwo plus vs H Q E
theorem ok__law_plus (T : Txt Z mg)  (D : AtF Z.K mg "_law_plus" "_law_plus" s__law_plus ["one", "other"]) : Has P w Z.K mg base "_law_plus" 1 ["one", "other"] (sp__law_plus Z) := by
  refine D.ok sc__law_plus (fun vs H Q E h => ?_) (fun cdv A outer s H vs Q E hr h => ?_)
  · obtain ⟨p, p', t, r, b, t', r', b', rfl, _⟩ := h
    rfl
  · refine ⟨_, (pss_one (ps_ret (pe_tup (pa_cons (pe_op op_add (pe_op op_mulS (pe_ix ix_seq (pv 0) pe_int (fun _ _ => rfl)) (pe_ix ix_seq (pv 1) pe_int (fun _ _ => rfl))) (pe_op op_mulS (pe_ix ix_seq (pv 1) pe_int (fun _ _ => rfl)) (pe_ix ix_seq (pv 0) pe_int (fun _ _ => rfl)))) (pa_cons (pe_op op_add (pe_op op_mulS (pe_ix ix_seq (pv 0) pe_int (fun _ _ => rfl)) (pe_ix ix_seq (pv 1) pe_int (fun _ _ => rfl))) (pe_op op_mulS (pe_ix ix_seq (pv 1) pe_int (fun _ _ => rfl)) (pe_ix ix_seq (pv 0) pe_int (fun _ _ => rfl)))) (pa_cons (pe_op op_mulS (pe_ix ix_seq (pv 0) pe_int (fun _ _ => rfl)) (pe_ix ix_seq (pv 1) pe_int (fun _ _ => rfl))) pa_nil)))))), ?_⟩
    try simp only [cxOf]
    obtain ⟨p, p', t, r, b, t', r', b', rfl, h1, h2, ⟨bt, br, bb⟩, ⟨bt', br', bb'⟩, q⟩ := h
    unfold T3 at h1 h2
    repeat (first | walk_at "s" | walk_at "mul")
    exact k_tup rfl q
abbrev s__law_minus : Stmt := top 22
theorem sc__law_minus : FnScope ["one", "other"] ["one", "other"] (defScope s__law_minus) := ⟨rfl, rfl, rfl, by decide +kernel, rfl, by decide +kernel, by decide +kernel⟩

def sp__law_minus (Z : Zs) : Sp := fun vs H Q E =>
  spTwo minus vs H Q E
theorem ok__law_minus (T : Txt Z mg)  (D : AtF Z.K mg "_law_minus" "_law_minus" s__law_minus ["one", "other"]) : Has P w Z.K mg base "_law_minus" 1 ["one", "other"] (sp__law_minus Z) := by
  refine D.ok sc__law_minus (fun vs H Q E h => ?_) (fun cdv A outer s H vs Q E hr h => ?_)
  · obtain ⟨p, p', t, r, b, t', r', b', rfl, _⟩ := h
    rfl
  · refine ⟨_, (pss_one (ps_ret (pe_tup (pa_cons (pe_op op_sub (pe_op op_mulS (pe_ix ix_seq (pv 0) pe_int (fun _ _ => rfl)) (pe_ix ix_seq (pv 1) pe_int (fun _ _ => rfl))) (pe_op op_mulS (pe_ix ix_seq (pv 1) pe_int (fun _ _ => rfl)) (pe_ix ix_seq (pv 0) pe_int (fun _ _ => rfl)))) (pa_cons (pe_op op_sub (pe_op op_mulS (pe_ix ix_seq (pv 0) pe_int (fun _ _ => rfl)) (pe_ix ix_seq (pv 1) pe_int (fun _ _ => rfl))) (pe_op op_mulS (pe_ix ix_seq (pv 1) pe_int (fun _ _ => rfl)) (pe_ix ix_seq (pv 0) pe_int (fun _ _ => rfl)))) (pa_cons (pe_op op_mulS (pe_ix ix_seq (pv 0) pe_int (fun _ _ => rfl)) (pe_ix ix_seq (pv 1) pe_int (fun _ _ => rfl))) pa_nil)))))), ?_⟩
    try simp only [cxOf]
    obtain ⟨p, p', t, r, b, t', r', b', rfl, h1, h2, ⟨bt, br, bb⟩, ⟨bt', br', bb'⟩, q⟩ := h
    unfold T3 at h1 h2
    repeat (first | walk_at "s" | walk_at "mul")
    exact k_tup rfl q
abbrev s__law_times : Stmt := top 23
theorem sc__law_times : FnScope ["one", "other"] ["one", "other"] (defScope s__law_times) := ⟨rfl, rfl, rfl, by decide +kernel, rfl, by decide +kernel, by decide +kernel⟩

def sp__law_times (Z : Zs) : Sp := fun vs H Q E =>
  spTwo times vs H Q E
theorem ok__law_times (T : Txt Z mg)  (D : AtF Z.K mg "_law_times" "_law_times" s__law_times ["one", "other"]) : Has P w Z.K mg base "_law_times" 1 ["one", "other"] (sp__law_times Z) := by
  refine D.ok sc__law_times (fun vs H Q E h => ?_) (fun cdv A outer s H vs Q E hr h => ?_)
  · obtain ⟨p, p', t, r, b, t', r', b', rfl, _⟩ := h
    rfl
  · refine ⟨_, (pss_one (ps_ret (pe_tup (pa_cons (pe_op op_add (pe_op op_mulS (pe_ix ix_seq (pv 0) pe_int (fun _ _ => rfl)) (pe_ix ix_seq (pv 1) pe_int (fun _ _ => rfl))) (pe_op op_mulS (pe_op op_mulS pe_int (pe_ix ix_seq (pv 0) pe_int (fun _ _ => rfl))) (pe_ix ix_seq (pv 1) pe_int (fun _ _ => rfl)))) (pa_cons (pe_op op_add (pe_op op_mulS (pe_ix ix_seq (pv 0) pe_int (fun _ _ => rfl)) (pe_ix ix_seq (pv 1) pe_int (fun _ _ => rfl))) (pe_op op_mulS (pe_ix ix_seq (pv 0) pe_int (fun _ _ => rfl)) (pe_ix ix_seq (pv 1) pe_int (fun _ _ => rfl)))) (pa_cons (pe_op op_mulS (pe_ix ix_seq (pv 0) pe_int (fun _ _ => rfl)) (pe_ix ix_seq (pv 1) pe_int (fun _ _ => rfl))) pa_nil)))))), ?_⟩
    try simp only [cxOf]
    obtain ⟨p, p', t, r, b, t', r', b', rfl, h1, h2, ⟨bt, br, bb⟩, ⟨bt', br', bb'⟩, q⟩ := h
    unfold T3 at h1 h2
    repeat (first | walk_at "s" | walk_at "mul")
    exact k_tup rfl q
/-- a corner told otherwise: as a list or a tuple -/
def Four (H : Hp) (p : Addr) (c : C4) : Prop := H p = some (.lst [.int c.a, .int c.b, .int c.c, .int c.d]) ∨ H p = some (.tup [.int c.a, .int c.b, .int c.c, .int c.d])
theorem Four.same {H H' : Hp} {p : Addr} {c : C4} (h : Four H p c) (s : Same H H') : Four H' p c := h.imp (s _ _) (s _ _)
theorem Four.ix {K : PySem.W.Frag} {H : Hp} {p : Addr} {c : C4} {i : Int} {v : V} {Q : VK} (h : Four H p c) (e : atI [V.int c.a, .int c.b, .int c.c, .int c.d] i = some v) (q : Q v H) : rIx K (.ref p) (.int i) H Q := by
  rcases h with h | h
  · exact w_ixL h e q
  · exact w_ixT h e q
def conj (c : C4) : C4 := ⟨c.a, c.d, -c.c, c.b⟩
/-- a point of told parts: the place of c, each number's parts times a number -/
def LedAt (H : Hp) (u : Addr) (c : C4) (n : Nat) : Prop := ∃ p p' s s', H u = some (.tup [.ref p, .ref p']) ∧ T3 H p (2 * c.a * s) ((c.b - c.d) * s) (2 * s) ∧ T3 H p' (2 * c.c * s') ((c.b + c.d) * s') (2 * s') ∧ s ≠ 0 ∧ s' ≠ 0 ∧ Bw n s ∧ Bw n s'
theorem LedAt.same {H H' : Hp} {u : Addr} {c : C4} {n : Nat} (h : LedAt H u c n) (s : Same H H') : LedAt H' u c n := by
  obtain ⟨p, p', s1, s2, a, b, d, e⟩ := h
  exact ⟨p, p', s1, s2, s _ _ a, s _ _ b, s _ _ d, e⟩
theorem LedAt.mono {H : Hp} {u : Addr} {c : C4} {n m : Nat} (h : LedAt H u c n) (l : n ≤ m) : LedAt H u c m := by
  obtain ⟨p, p', s1, s2, a, b, d, e, f, g, k⟩ := h
  exact ⟨p, p', s1, s2, a, b, d, e, f, g.mono l, k.mono l⟩
theorem led_of {H : Hp} {u p p' : Addr} {c : C4} {n : Nat} {s s' t r b t' r' b' : Int} (h : H u = some (.tup [.ref p, .ref p'])) (h1 : T3 H p t r b) (h2 : T3 H p' t' r' b') (e1 : t = 2 * c.a * s) (e2 : r = (c.b - c.d) * s) (e3 : b = 2 * s) (e4 : t' = 2 * c.c * s') (e5 : r' = (c.b + c.d) * s') (e6 : b' = 2 * s')
    (n1 : s ≠ 0) (n2 : s' ≠ 0) (w1 : Bw n s) (w2 : Bw n s') : LedAt H u c n := by
  subst e1 e2 e3 e4 e5 e6
  exact ⟨p, p', s, s', h, h1, h2, n1, n2, w1, w2⟩
theorem led_one {H : Hp} {u p p' : Addr} {c : C4} {t r t' r' : Int} (h : H u = some (.tup [.ref p, .ref p'])) (h1 : T3 H p t r 2) (h2 : T3 H p' t' r' 2) (e1 : t = 2 * c.a) (e2 : r = c.b - c.d) (e4 : t' = 2 * c.c) (e5 : r' = c.b + c.d) : LedAt H u c 1 :=
  led_of h h1 h2 (s := 1) (s' := 1) (by omega) (by omega) (by omega) (by omega) (by omega) (by omega) (by decide) (by decide) Bw.one Bw.one
abbrev s__law_place : Stmt := top 24
theorem sc__law_place : FnScope ["corner"] ["corner"] (defScope s__law_place) := ⟨rfl, rfl, rfl, by decide +kernel, rfl, by decide +kernel, by decide +kernel⟩

def sp__law_place (Z : Zs) : Sp := fun vs H Q E =>
  ∃ p c, vs = [.ref p] ∧ Four H p c ∧ ∀ u H', Same H H' → LedAt H' u c 1 → Q (.ref u) H'
theorem ok__law_place (T : Txt Z mg)  (D : AtF Z.K mg "_law_place" "_law_place" s__law_place ["corner"]) : Has P w Z.K mg base "_law_place" 1 ["corner"] (sp__law_place Z) := by
  refine D.ok sc__law_place (fun vs H Q E h => ?_) (fun cdv A outer s H vs Q E hr h => ?_)
  · obtain ⟨p, c, rfl, _⟩ := h
    rfl
  · refine ⟨_, (pss_one (ps_ret (pe_tup (pa_cons (pe_tup (pa_cons (pe_op op_mulS pe_int (pe_ix ix_seq (pv 0) pe_int (fun _ _ => rfl))) (pa_cons (pe_op op_sub (pe_ix ix_seq (pv 0) pe_int (fun _ _ => rfl)) (pe_ix ix_seq (pv 0) pe_int (fun _ _ => rfl))) (pa_cons pe_int pa_nil)))) (pa_cons (pe_tup (pa_cons (pe_op op_mulS pe_int (pe_ix ix_seq (pv 0) pe_int (fun _ _ => rfl))) (pa_cons (pe_op op_add (pe_ix ix_seq (pv 0) pe_int (fun _ _ => rfl)) (pe_ix ix_seq (pv 0) pe_int (fun _ _ => rfl))) (pa_cons pe_int pa_nil)))) pa_nil))))), ?_⟩
    try simp only [cxOf]
    obtain ⟨p, c, rfl, h, q⟩ := h
    repeat (first | walk_at "s" | refine h.ix rfl ?_)
    refine k_tup rfl fun u1 H1 hu1 s1 e1 => ?_
    have h := h.same s1
    repeat (first | walk_at "s" | refine h.ix rfl ?_)
    refine k_tup rfl fun u2 H2 hu2 s2 e2 => ?_
    walk_at "W"
    refine k_tup rfl fun u3 H3 hu3 s3 e3 => ?_
    exact q u3 H3 (s1.trans (s2.trans s3)) (led_one e3 (s3 _ _ (s2 _ _ e1)) (s3 _ _ e2) rfl rfl rfl rfl)
abbrev s__law_star : Stmt := top 25
theorem sc__law_star : FnScope ["corner"] ["corner"] (defScope s__law_star) := ⟨rfl, rfl, rfl, by decide +kernel, rfl, by decide +kernel, by decide +kernel⟩

def sp__law_star (Z : Zs) : Sp := fun vs H Q E =>
  ∃ p c, vs = [.ref p] ∧ Four H p c ∧ ∀ u H', Same H H' → LedAt H' u (conj c) 1 → Q (.ref u) H'
theorem ok__law_star (T : Txt Z mg)  (D : AtF Z.K mg "_law_star" "_law_star" s__law_star ["corner"]) : Has P w Z.K mg base "_law_star" 1 ["corner"] (sp__law_star Z) := by
  refine D.ok sc__law_star (fun vs H Q E h => ?_) (fun cdv A outer s H vs Q E hr h => ?_)
  · obtain ⟨p, c, rfl, _⟩ := h
    rfl
  · refine ⟨_, (pss_one (ps_ret (pe_tup (pa_cons (pe_tup (pa_cons (pe_op op_mulS pe_int (pe_ix ix_seq (pv 0) pe_int (fun _ _ => rfl))) (pa_cons (pe_op op_sub (pe_ix ix_seq (pv 0) pe_int (fun _ _ => rfl)) (pe_ix ix_seq (pv 0) pe_int (fun _ _ => rfl))) (pa_cons pe_int pa_nil)))) (pa_cons (pe_tup (pa_cons (pe_op op_mulS (pe_un un_neg pe_int) (pe_ix ix_seq (pv 0) pe_int (fun _ _ => rfl))) (pa_cons (pe_op op_add (pe_ix ix_seq (pv 0) pe_int (fun _ _ => rfl)) (pe_ix ix_seq (pv 0) pe_int (fun _ _ => rfl))) (pa_cons pe_int pa_nil)))) pa_nil))))), ?_⟩
    try simp only [cxOf]
    obtain ⟨p, c, rfl, h, q⟩ := h
    repeat (first | walk_at "s" | refine h.ix rfl ?_)
    refine k_tup rfl fun u1 H1 hu1 s1 e1 => ?_
    have h := h.same s1
    repeat (first | walk_at "s" | refine h.ix rfl ?_)
    refine k_tup rfl fun u2 H2 hu2 s2 e2 => ?_
    walk_at "W"
    refine k_tup rfl fun u3 H3 hu3 s3 e3 => ?_
    exact q u3 H3 (s1.trans (s2.trans s3)) (led_one e3 (s3 _ _ (s2 _ _ e1)) (s3 _ _ e2) rfl rfl (by show -2 * c.c = 2 * -c.c; omega) (by show c.b + c.d = c.d + c.b; omega))
def C4.bw (n : Nat) (c : C4) : Prop := Bw n c.a ∧ Bw n c.b ∧ Bw n c.c ∧ Bw n c.d
theorem len4 {ns : List Int} (h : ns.length = 4) : ∃ a b c d, ns = [a, b, c, d] := by
  match ns, h with
  | [a, b, c, d], _ => exact ⟨a, b, c, d, rfl⟩
theorem k_between' {st sc : Addr} {lo hi : Int} {H : Hp} {Q : VK} {E : XK} (hs : StA H st sc) (h1 : lo ≤ hi) (h2 : (hi - lo + 1).natAbs ≤ 10 ^ 30) (q : ∀ n H', lo ≤ n → n ≤ hi → SameX st H H' → StA H' st sc → Q (.int n) H') : sp__law_between Z [.ref st, .int lo, .int hi] H Q E :=
  ⟨st, sc, lo, hi, rfl, hs, h1, Nat.lt_of_le_of_lt h2 (by decide), q⟩
theorem k_draw' {st sc : Addr} {many : Int} {H : Hp} {Q : VK} {E : XK} (hs : StA H st sc) (h1 : 0 < many) (h2 : Nat.blt many.natAbs 1000000 = true) (q : ∀ n H', 0 ≤ n → n < many → SameX st H H' → StA H' st sc → Q (.int n) H') : sp__law_draw Z [.ref st, .int many] H Q E :=
  ⟨st, sc, many, rfl, hs, h1, Nat.lt_of_lt_of_le (by simpa using h2 : many.natAbs < 1000000) (by decide), q⟩
abbrev s__law_corner : Stmt := top 26
theorem sc__law_corner : FnScope ["state", "size", "most", "k"] ["state"] (defScope s__law_corner) := ⟨rfl, rfl, rfl, by decide +kernel, rfl, by decide +kernel, by decide +kernel⟩

def sp__law_corner (Z : Zs) : Sp := fun vs H Q E =>
  ∃ st sc, vs = [.ref st] ∧ StA H st sc ∧ ∀ u (c : C4) H', SameX st H H' → StA H' st sc → H' u = some (.tup [.int c.a, .int c.b, .int c.c, .int c.d]) → C4.bw 84 c → Q (.ref u) H'
theorem ok__law_corner (T : Txt Z mg) (h__law_between : Has P w Z.K mg base "_law_between" 3 ["state", "least", "most"] (sp__law_between Z)) (h__law_draw : Has P w Z.K mg base "_law_draw" 2 ["state", "many"] (sp__law_draw Z)) (D : AtF Z.K mg "_law_corner" "_law_corner" s__law_corner ["state"]) : Has P w Z.K mg base "_law_corner" 4 ["state"] (sp__law_corner Z) := by
  refine D.ok sc__law_corner (fun vs H Q E h => ?_) (fun cdv A outer s H vs Q E hr h => ?_)
  · obtain ⟨st, sc, rfl, _⟩ := h
    rfl
  · refine ⟨_, (pss_cons (ps_set (i := 1) sc__law_corner.nd rfl (Or.inl rfl) (pe_h (E := ED E) h__law_draw hr (paW (takes_of rfl rfl rfl rfl)) (pa_cons (pv 0) (pa_cons pe_int pa_nil))))
      (pss_cons (ps_set (i := 2) sc__law_corner.nd rfl (Or.inr rfl) pe_int)
      (C8.pss_cut (ps_if (pt_cmpR op_eq (pv 1) pe_int (nomark _)) (pss_one (ps_set (i := 2) sc__law_corner.nd rfl (Or.inr rfl) pe_int)) pss_nil)
      (C8.pss_cut (ps_if (pt_cmpR op_eq (pv 1) pe_int (nomark _)) (pss_one (ps_set (i := 2) sc__law_corner.nd rfl (Or.inr rfl) (pe_op op_pow pe_int pe_int))) pss_nil)
      (pss_one (ps_ret (pe_callTy cn_tuple rfl T.n_tuple (by decide +kernel) (pa_cons (pe_lc (own := [("k", 3)]) (g := gName 3) rfl sc__law_corner.nd (pi_range1 rfl T.n_range (pa_cons pe_int pa_nil)) (blkOk_by (N := ["state", "size", "most", "k"]) (sc := defScope s__law_corner) (by decide +kernel)) (fun _ _ _ _ _ => pg_name (i := 3) sc__law_corner.nd rfl (Or.inl rfl)) (fun _ _ _ _ _ => pts_nil) (fun _ _ _ _ _ => (pe_h (E := fun _ => E0) h__law_between hr pa0 (pa_cons (pv 0) (pa_cons (pe_un un_neg (pv 2)) (pa_cons (pv 2) pa_nil)))))) pa_nil)))))))), ?_⟩
    try simp only [cxOf]
    obtain ⟨st, sc, rfl, hs, q⟩ := h
    have e25 : (10 : Int) ^ Int.toNat 25 = 10000000000000000000000000 := by decide
    walk_at "W"
    refine k_draw' hs (by decide) (by decide) fun n H1 n0 n1 x1 hs1 => ?_
    walk_at "W"
    refine w_cut (fun σ' H' => H' = H1 ∧ ∃ m : Int, σ' = [some (.ref st), some (.int n), some (.int m), none] ∧ 0 ≤ m ∧ m ≤ 10 ^ 25) ?_ ?_
    · walk_at "W"
      refine w_ite (fun _ => ?_) (fun _ => ?_)
      · walk_at "W"
        exact ⟨rfl, 1000, rfl, by decide, by decide⟩
      · walk_at "W"
        exact ⟨rfl, 5, rfl, by decide, by decide⟩
    rintro σ' H' ⟨rfl, m, rfl, m0, m1⟩
    walk_at "W"
    refine w_cut (fun σ' H1 => H1 = H' ∧ ∃ m : Int, σ' = [some (.ref st), some (.int n), some (.int m), none] ∧ 0 ≤ m ∧ m ≤ 10 ^ 25) ?_ ?_
    · walk_at "W"
      refine w_ite (fun _ => ?_) (fun _ => ?_)
      · walk_at "W"
        rw [e25]
        exact ⟨rfl, _, rfl, by decide, by decide⟩
      · walk_at "W"
        exact ⟨rfl, m, rfl, m0, m1⟩
    rintro σ' H1 ⟨rfl, m, rfl, m0, m1⟩
    walk_at "W"
    refine k_lcDraw (st := st) (sc := sc) (P := fun z => z.natAbs ≤ 10 ^ 25) (by decide) (by decide) hs1 (fun _ => rfl) (fun z H' hs' _ N k => ?_) (fun D H2 ms e1 e2 e3 e4 hst2 s2 => ?_)
    · walk_at "W"
      exact k_between' hs' (by omega) (by omega) fun n H2 h0 h1 s2 st2 => k n H2 (by omega) s2 st2
    obtain ⟨a, b, c, d, rfl⟩ := len4 e2
    refine w_tupL e1 fun t H3 ht s3 e5 => ?_
    have w : ∀ x ∈ [a, b, c, d], Bw 84 x := fun x hx => bw_of (e3 x hx) (by decide)
    exact q t ⟨a, b, c, d⟩ H3 (x1.trans (s2.trans (Same.x s3))) (hst2.same s3) e5 ⟨w a (by simp), w b (by simp), w c (by simp), w d (by simp)⟩
abbrev s__law_is_corner : Stmt := top 27
theorem sc__law_is_corner : FnScope ["thing", "part"] ["thing"] (defScope s__law_is_corner) := ⟨rfl, rfl, rfl, by decide +kernel, rfl, by decide +kernel, by decide +kernel⟩

def sp__law_is_corner (Z : Zs) : Sp := fun vs H Q E =>
  ∃ v c, vs = [v] ∧ CorAt H v c ∧ Q (.bl true) H
theorem ok__law_is_corner (T : Txt Z mg)  (D : AtF Z.K mg "_law_is_corner" "_law_is_corner" s__law_is_corner ["thing"]) : Has P w Z.K mg base "_law_is_corner" 1 ["thing"] (sp__law_is_corner Z) := by
  refine D.ok sc__law_is_corner (fun vs H Q E h => ?_) (fun cdv A outer s H vs Q E hr h => ?_)
  · obtain ⟨v, c, rfl, _⟩ := h
    rfl
  · refine ⟨_, (pss_cons (ps_if (PW.pt (pw_or (pt_not (pt_val (pe_callB call_isi rfl T.n_isinstance (by decide +kernel) (pa_cons (pv 0) (pa_cons (pe_bltn (v := .ty "tuple") rfl T.n_tuple (by decide +kernel) rfl) pa_nil))))) (pw_or1 (pt_cmpR op_ne (pe_callB cn_len rfl T.n_len (by decide +kernel) (pa_cons (pv 0) pa_nil)) pe_int (nomark _))))) (pss_one (ps_ret pe_bl)) pss_nil)
      (pss_cons (ps_for (passes_of rfl) rfl (pi_tup (pv 0)) (pg_name (i := 1) sc__law_is_corner.nd rfl (Or.inl rfl)) (pss_one (ps_if (PW.pt (pw_or (pt_not (pt_val (pe_callB call_isi rfl T.n_isinstance (by decide +kernel) (pa_cons (pv 1) (pa_cons (pe_bltn (v := .ty "int") rfl T.n_int (by decide +kernel) rfl) pa_nil))))) (pw_or1 (pt_val (pe_callB call_isi rfl T.n_isinstance (by decide +kernel) (pa_cons (pv 1) (pa_cons (pe_bltn (v := .ty "bool") rfl T.n_bool (by decide +kernel) rfl) pa_nil))))))) (pss_one (ps_ret pe_bl)) pss_nil)))
      (pss_one (ps_ret pe_bl)))), ?_⟩
    try simp only [cxOf]
    obtain ⟨v, c, rfl, ⟨p, rfl, hp⟩, q⟩ := h
    obtain ⟨t, ty, _, _, k⟩ := (Plain.tup p _ hp).ty (K := Z.K)
    rw [isTu_tup hp] at k
    walk_at "W"
    refine w_isi ty k ?_
    walk_at "W"
    refine w_lenT (SqT.of hp) ?_
    walk_at "W"
    refine k_forT (fun _ σ' H' => H' = H ∧ ∃ x, σ' = [some (.ref p), x]) hp ⟨rfl, none, rfl⟩ (fun _ _ _ h => by rw [h.1]; exact hp) ?_ ?_
    · rintro i x σ' H' hx ⟨rfl, y, rfl⟩
      obtain ⟨z, rfl⟩ : ∃ z, x = V.int z := by
        rcases i with _ | _ | _ | _ | i
        · cases hx; exact ⟨_, rfl⟩
        · cases hx; exact ⟨_, rfl⟩
        · cases hx; exact ⟨_, rfl⟩
        · cases hx; exact ⟨_, rfl⟩
        · simp at hx
      obtain ⟨ty', hty', k1, k2, _⟩ := (Plain.int (H := H') z).ty (K := Z.K)
      walk_at "W"
      refine w_isi hty' k1 ?_
      walk_at "W"
      refine w_isi hty' k2 ?_
      walk_at "W"
      exact ⟨rfl, _, rfl⟩
    · rintro σ' H' ⟨rfl, y, rfl⟩
      walk_at "W"
      exact q
theorem rd_same {H H' : Hp} {a : Addr} {o : HO} (s : Same H H') (h : Rd H a o) : Rd H' a o := by
  rcases h with h | ⟨x, h⟩
  · exact .inl (s _ _ h)
  · exact .inr ⟨x, s _ _ h⟩
theorem dp_same {K : PySem.W.Frag} {H H' : Hp} (s : Same H H') : (∀ {v : V} {d : PyData}, Dp K H v d → Dp K H' v d) := by
  intro v d h
  induction h using Dp.rec (motive_2 := fun vs ds _ => DpAll K H' vs ds) with
  | non => exact .non
  | bl b => exact .bl b
  | int i => exact .int i
  | str x => exact .str x
  | lst h _ ih => exact .lst (h.imp (rd_same s) id) ih
  | tup h _ ih => exact .tup (h.imp (rd_same s) id) ih
  | nil => exact .nil
  | cons _ _ a b => exact .cons a b
/-- what a corner spoilt is -/
structure Odd4 (Z : Zs) (H : Hp) (v : V) (d : PyData) : Prop where
  bad : BadCor Z H v
  dp : Dp Z.K H v d
  lay : d.canLay0 = true
  dep : d.depth ≤ 5
theorem odd_part {Z : Zs} {H : Hp} {x y z u : V} {p : Addr} {dx dy dz du : PyData} (h : H p = some (.tup [x, y, z, u])) (px : Plain H x) (py : Plain H y) (pz : Plain H z) (pu : Plain H u) (n : ([x, y, z, u].all isI) = false)
    (d1 : Dp Z.K H x dx) (d2 : Dp Z.K H y dy) (d3 : Dp Z.K H z dz) (d4 : Dp Z.K H u du) (l1 : dx.canLay0 = true) (l2 : dy.canLay0 = true) (l3 : dz.canLay0 = true) (l4 : du.canLay0 = true)
    (e1 : dx.depth ≤ 3) (e2 : dy.depth ≤ 3) (e3 : dz.depth ≤ 3) (e4 : du.depth ≤ 3) : ∃ d, Odd4 Z H (.ref p) d := by
  refine ⟨.tuple [dx, dy, dz, du], .inr ⟨p, _, rfl, h, by simp, fun v hv => ?_, by unfold isCor; rw [n, Bool.and_false]⟩, .tup (SqT.of h) (.cons d1 (.cons d2 (.cons d3 (.cons d4 .nil)))), ?_, ?_⟩
  · simp only [List.mem_cons, List.not_mem_nil, or_false] at hv
    rcases hv with rfl | rfl | rfl | rfl
    · exact px.thI
    · exact py.thI
    · exact pz.thI
    · exact pu.thI
  · simp only [PyData.canLay0, PyData.canLayAll0, l1, l2, l3, l4, Bool.and_self, Bool.and_true]
  · simp only [PyData.depth, PyData.depthAll]
    omega
abbrev s__law_bad_corner : Stmt := top 28
theorem sc__law_bad_corner : FnScope ["state", "corner", "kind", "at", "part"] ["state", "corner"] (defScope s__law_bad_corner) := ⟨rfl, rfl, rfl, by decide +kernel, rfl, by decide +kernel, by decide +kernel⟩

def sp__law_bad_corner (Z : Zs) : Sp := fun vs H Q E =>
  ∃ (st sc p : Addr) (c : C4), vs = [.ref st, .ref p] ∧ StA H st sc ∧ H p = some (.tup [.int c.a, .int c.b, .int c.c, .int c.d]) ∧ ∀ v d H', SameX st H H' → StA H' st sc → Odd4 Z H' v d → Q v H'
theorem ok__law_bad_corner (T : Txt Z mg) (h__law_draw : Has P w Z.K mg base "_law_draw" 2 ["state", "many"] (sp__law_draw Z)) (D : AtF Z.K mg "_law_bad_corner" "_law_bad_corner" s__law_bad_corner ["state", "corner"]) : Has P w Z.K mg base "_law_bad_corner" 3 ["state", "corner"] (sp__law_bad_corner Z) := by
  refine D.ok sc__law_bad_corner (fun vs H Q E h => ?_) (fun cdv A outer s H vs Q E hr h => ?_)
  · obtain ⟨st, sc, p, c, rfl, _⟩ := h
    rfl
  · refine ⟨_, (pss_cons (ps_set (i := 2) sc__law_bad_corner.nd rfl (Or.inl rfl) (pe_h (E := ED E) h__law_draw hr (paW (takes_of rfl rfl rfl rfl)) (pa_cons (pv 0) (pa_cons pe_int pa_nil))))
      (pss_cons (ps_set (i := 3) sc__law_bad_corner.nd rfl (Or.inl rfl) (pe_h (E := ED E) h__law_draw hr (paW (takes_of rfl rfl rfl rfl)) (pa_cons (pv 0) (pa_cons pe_int pa_nil))))
      (pss_cons (ps_if (pt_cmpR op_eq (pv 2) pe_int (nomark _)) (pss_one (ps_ret (pe_callTy cn_list rfl T.n_list (by decide +kernel) (pa_cons (pv 1) pa_nil)))) pss_nil)
      (pss_cons (ps_if (pt_cmpR op_eq (pv 2) pe_int (nomark _)) (pss_one (ps_ret (pe_slice sl_tupA (pv 1) po_none (po_some pe_int)))) pss_nil)
      (pss_cons (ps_if (pt_cmpR op_eq (pv 2) pe_int (nomark _)) (pss_one (ps_ret (pe_op op_catA (pv 1) (pe_tup (pa_cons pe_int pa_nil))))) pss_nil)
      (pss_cons (ps_if (pt_cmpR op_eq (pv 2) pe_int (nomark _)) (pss_one (ps_ret pe_non)) pss_nil)
      (pss_cons (ps_set (i := 4) sc__law_bad_corner.nd rfl (Or.inl rfl) (pe_ix ix_seq (pe_lst (pa_cons pe_bl (pa_cons pe_str (pa_cons pe_non (pa_cons (pe_tup (pa_cons pe_int pa_nil)) pa_nil))))) (pe_op op_sub (pv 2) pe_int) (fun _ _ => rfl)))
      (pss_one (ps_ret (pe_op op_catA (pe_op op_catA (pe_slice sl_tupA (pv 1) po_none (po_some (pv 3))) (pe_tup (pa_cons (pv 4) pa_nil))) (pe_slice sl_tupA (pv 1) (po_some (pe_op op_add (pv 3) pe_int)) po_none))))))))))), ?_⟩
    try simp only [cxOf]
    obtain ⟨st, sc, p, c, rfl, hs, hp, q⟩ := h
    walk_at "W"
    refine k_draw' hs (by decide) (by decide) fun kd H1 n0 n1 x1 hs1 => ?_
    walk_at "W"
    refine k_draw' hs1 (by decide) (by decide) fun i H2 i0 i1 x2 hs2 => ?_
    have X := x1.trans x2
    have hp := x2 _ _ (hs1.ne (x1 _ _ (hs.ne hp (by intro xs z; cases z)) hp) (by intro xs z; cases z)) (x1 _ _ (hs.ne hp (by intro xs z; cases z)) hp)
    walk_at "W"
    refine w_ite (fun _ => ?_) (fun _ => ?_)
    · walk_at "W"
      refine w_listT (SqT.of hp) fun l H3 hl s3 e3 => ?_
      exact q _ _ H3 (X.trans (Same.x s3)) (hs2.same s3) ⟨.inl ⟨.lst l _ e3, isTu_lst e3⟩, .lst (SqL.of e3) (.cons (.int _) (.cons (.int _) (.cons (.int _) (.cons (.int _) .nil)))), rfl, Nat.le_of_ble_eq_true rfl⟩
    walk_at "W"
    refine w_ite (fun _ => ?_) (fun _ => ?_)
    · walk_at "W"
      refine k_slA hp fun t H3 s3 e3 => ?_
      have e3 : H3 t = some (.tup [.int c.a, .int c.b, .int c.c]) := e3
      refine q _ _ H3 (X.trans (Same.x s3)) (hs2.same s3) ⟨.inr ⟨t, _, rfl, e3, by simp, fun v hv => ?_, rfl⟩, .tup (SqT.of e3) (.cons (.int _) (.cons (.int _) (.cons (.int _) .nil))), rfl, Nat.le_of_ble_eq_true rfl⟩
      simp only [List.mem_cons, List.not_mem_nil, or_false] at hv
      rcases hv with rfl | rfl | rfl <;> exact (Plain.int _).thI
    walk_at "W"
    refine w_ite (fun _ => ?_) (fun _ => ?_)
    · walk_at "W"
      refine k_tup rfl fun t H3 ht s3 e3 => ?_
      refine w_catA (s3 _ _ hp) e3 rfl fun t2 H4 s4 e4 => ?_
      have e4 : H4 t2 = some (.tup [.int c.a, .int c.b, .int c.c, .int c.d, .int 0]) := e4
      refine q _ _ H4 (X.trans (Same.x (s3.trans s4))) (hs2.same (s3.trans s4)) ⟨.inr ⟨t2, _, rfl, e4, by simp, fun v hv => ?_, rfl⟩, .tup (SqT.of e4) (.cons (.int _) (.cons (.int _) (.cons (.int _) (.cons (.int _) (.cons (.int _) .nil))))), rfl, Nat.le_of_ble_eq_true rfl⟩
      simp only [List.mem_cons, List.not_mem_nil, or_false] at hv
      rcases hv with rfl | rfl | rfl | rfl | rfl <;> exact (Plain.int _).thI
    walk_at "W"
    refine w_ite (fun _ => ?_) (fun n3 => ?_)
    · walk_at "W"
      exact q _ _ H2 X hs2 ⟨.inl ⟨.non, rfl⟩, .non, rfl, by decide⟩
    have hk : kd = 4 ∨ kd = 5 ∨ kd = 6 ∨ kd = 7 := by
      have f : ∀ {x y : Int}, ¬ (V.int x = V.int y) → x ≠ y := fun h z => h (by rw [z])
      have := f n3
      rename_i h1 h2 h3
      have := f h1
      have := f h2
      have := f h3
      omega
    walk_at "W"
    refine k_tup rfl fun u1 H3 hu1 s3 e3 => ?_
    walk_at "W"
    refine k_lst rfl fun l H4 hl s4 e4 => ?_
    obtain ⟨v, dv, hv, pv, nv, dp, ly, de⟩ : ∃ v dv, atI [V.bl true, .str "0", .non, .ref u1] (kd - 4) = some v ∧ Plain H4 v ∧ isI v = false ∧ Dp Z.K H4 v dv ∧ dv.canLay0 = true ∧ dv.depth ≤ 3 := by
      rcases hk with rfl | rfl | rfl | rfl
      · exact ⟨_, _, rfl, .bl _, rfl, .bl _, rfl, by decide⟩
      · exact ⟨_, _, rfl, .str _, rfl, .str _, by decide +kernel, by decide⟩
      · exact ⟨_, _, rfl, .non, rfl, .non, rfl, by decide⟩
      · exact ⟨_, _, rfl, .tup u1 _ (s4 _ _ e3), rfl, .tup (SqT.of (s4 _ _ e3)) (.cons (.int _) .nil), rfl, by decide⟩
    walk_at "W"
    refine w_ixL e4 hv ?_
    walk_at "W"
    have hp4 := s4 _ _ (s3 _ _ hp)
    have S4 := s3.trans s4
    refine k_slA hp4 fun t1 H5 s5 f5 => ?_
    walk_at "W"
    refine k_tup rfl fun t2 H6 ht2 s6 f6 => ?_
    have iI : ∀ {HH : Hp} (z : Int), Plain HH (.int z) := fun z => .int z
    have dI : ∀ {HH : Hp} (z : Int), Dp Z.K HH (.int z) (.int z) := fun z => .int z
    have fin : ∀ {t : Addr} {H' : Hp} {x y z u : V}, Same H4 H' → H' t = some (.tup [x, y, z, u]) → (([x, y, z, u] = [v, .int c.b, .int c.c, .int c.d]) ∨ ([x, y, z, u] = [.int c.a, v, .int c.c, .int c.d]) ∨ ([x, y, z, u] = [.int c.a, .int c.b, v, .int c.d]) ∨ ([x, y, z, u] = [.int c.a, .int c.b, .int c.c, v])) → Q (.ref t) H' := fun {t H' x y z u} s e o => by
      have S : Same H2 H' := S4.trans s
      have pv' := pv.same s
      have dp' := dp_same s dp
      have z3 : ∀ k : Int, (PyData.int k).depth ≤ 3 := fun k => by show 0 ≤ 3; decide
      obtain ⟨d, hd⟩ : ∃ d, Odd4 Z H' (.ref t) d := by
        rcases o with o | o | o | o <;> (injection o with o1 o; injection o with o2 o; injection o with o3 o; injection o with o4 o; subst o1 o2 o3 o4)
        · exact odd_part e pv' (iI _) (iI _) (iI _) (by simp [nv]) dp' (dI _) (dI _) (dI _) ly rfl rfl rfl de (z3 _) (z3 _) (z3 _)
        · exact odd_part e (iI _) pv' (iI _) (iI _) (by simp [nv]) (dI _) dp' (dI _) (dI _) rfl ly rfl rfl (z3 _) de (z3 _) (z3 _)
        · exact odd_part e (iI _) (iI _) pv' (iI _) (by simp [nv]) (dI _) (dI _) dp' (dI _) rfl rfl ly rfl (z3 _) (z3 _) de (z3 _)
        · exact odd_part e (iI _) (iI _) (iI _) pv' (by simp [nv]) (dI _) (dI _) (dI _) dp' rfl rfl rfl ly (z3 _) (z3 _) (z3 _) de
      exact q _ d H' (X.trans (Same.x S)) (hs2.same S) hd
    have hi : i = 0 ∨ i = 1 ∨ i = 2 ∨ i = 3 := by omega
    rcases hi with rfl | rfl | rfl | rfl
    · have f5 : H5 t1 = some (.tup []) := f5
      refine w_catA (s6 _ _ f5) f6 rfl fun t3 H7 s7 f7 => ?_
      walk_at "W"
      refine k_slA (s7 _ _ (s6 _ _ (s5 _ _ hp4))) fun t4 H8 s8 f8 => ?_
      refine w_catA (s8 _ _ f7) f8 rfl fun t5 H9 s9 f9 => ?_
      exact fin (s5.trans (s6.trans (s7.trans (s8.trans s9)))) f9 (.inl rfl)
    · have f5 : H5 t1 = some (.tup [.int c.a]) := f5
      refine w_catA (s6 _ _ f5) f6 rfl fun t3 H7 s7 f7 => ?_
      walk_at "W"
      refine k_slA (s7 _ _ (s6 _ _ (s5 _ _ hp4))) fun t4 H8 s8 f8 => ?_
      refine w_catA (s8 _ _ f7) f8 rfl fun t5 H9 s9 f9 => ?_
      exact fin (s5.trans (s6.trans (s7.trans (s8.trans s9)))) f9 (.inr (.inl rfl))
    · have f5 : H5 t1 = some (.tup [.int c.a, .int c.b]) := f5
      refine w_catA (s6 _ _ f5) f6 rfl fun t3 H7 s7 f7 => ?_
      walk_at "W"
      refine k_slA (s7 _ _ (s6 _ _ (s5 _ _ hp4))) fun t4 H8 s8 f8 => ?_
      refine w_catA (s8 _ _ f7) f8 rfl fun t5 H9 s9 f9 => ?_
      exact fin (s5.trans (s6.trans (s7.trans (s8.trans s9)))) f9 (.inr (.inr (.inl rfl)))
    · have f5 : H5 t1 = some (.tup [.int c.a, .int c.b, .int c.c]) := f5
      refine w_catA (s6 _ _ f5) f6 rfl fun t3 H7 s7 f7 => ?_
      walk_at "W"
      refine k_slA (s7 _ _ (s6 _ _ (s5 _ _ hp4))) fun t4 H8 s8 f8 => ?_
      refine w_catA (s8 _ _ f7) f8 rfl fun t5 H9 s9 f9 => ?_
      exact fin (s5.trans (s6.trans (s7.trans (s8.trans s9)))) f9 (.inr (.inr (.inr rfl)))
/-- what a law does with a corner -/
inductive Dd where
  | turn (e : Int)
  | mirror
  | great
  | less
  | step (d : Int)
def Dd.nm : Dd → Str
  | .turn _ => "turn"
  | .mirror => "mirror"
  | .great => "greater"
  | .less => "lesser"
  | .step _ => "step"
def Dd.arg : Dd → Int
  | .turn e => e
  | .step d => d
  | _ => 0
def Dd.ok : Dd → Prop
  | .turn e => Bw 80 e
  | .step d => 0 ≤ d ∧ d ≤ 7
  | _ => True
def DeedAt (H : Hp) (u : Addr) (d : Dd) : Prop := H u = some (.tup [.str d.nm, .int d.arg])
def doD : Dd → C4 → C4
  | .turn e, c => turnC (e % 8).toNat c
  | .mirror, c => mirC c
  | .great, c => greC c
  | .less, c => lesC c
  | .step d, c => stepC c d 1
def undoD : Dd → Dd
  | .turn e => .turn (-e)
  | .mirror => .mirror
  | .great => .less
  | .less => .great
  | .step d => .step ((d + 4) % 8)
theorem C4.ext' {c d : C4} (h1 : c.a = d.a) (h2 : c.b = d.b) (h3 : c.c = d.c) (h4 : c.d = d.d) : c = d := by
  cases c; cases d; simp_all
theorem mod8 (e : Int) : (e % 8).toNat = 0 ∨ (e % 8).toNat = 1 ∨ (e % 8).toNat = 2 ∨ (e % 8).toNat = 3 ∨ (e % 8).toNat = 4 ∨ (e % 8).toNat = 5 ∨ (e % 8).toNat = 6 ∨ (e % 8).toNat = 7 := by omega
theorem undo_do {d : Dd} (ok : d.ok) (c : C4) : doD (undoD d) (doD d c) = c := by
  cases d with
  | turn e =>
    show turnC ((-e) % 8).toNat (turnC (e % 8).toNat c) = c
    rcases mod8 e with h | h | h | h | h | h | h | h
    · rw [h, show ((-e) % 8).toNat = 0 by omega]; exact C4.ext' rfl rfl rfl rfl
    · rw [h, show ((-e) % 8).toNat = 7 by omega]; apply C4.ext' <;> simp [turnC, turn1]
    · rw [h, show ((-e) % 8).toNat = 6 by omega]; apply C4.ext' <;> simp [turnC, turn1]
    · rw [h, show ((-e) % 8).toNat = 5 by omega]; apply C4.ext' <;> simp [turnC, turn1]
    · rw [h, show ((-e) % 8).toNat = 4 by omega]; apply C4.ext' <;> simp [turnC, turn1]
    · rw [h, show ((-e) % 8).toNat = 3 by omega]; apply C4.ext' <;> simp [turnC, turn1]
    · rw [h, show ((-e) % 8).toNat = 2 by omega]; apply C4.ext' <;> simp [turnC, turn1]
    · rw [h, show ((-e) % 8).toNat = 1 by omega]; apply C4.ext' <;> simp [turnC, turn1]
  | mirror => apply C4.ext' <;> simp [doD, undoD, mirC]
  | great => apply C4.ext' <;> simp only [doD, undoD, greC, lesC] <;> omega
  | less => apply C4.ext' <;> simp only [doD, undoD, greC, lesC] <;> omega
  | step d =>
    obtain ⟨h0, h7⟩ := ok
    show stepC (stepC c d 1) ((d + 4) % 8) 1 = c
    rcases dir_cases h0 h7 with rfl | rfl | rfl | rfl | rfl | rfl | rfl | rfl <;> (apply C4.ext' <;> simp [stepC, C4.plus] <;> omega)
theorem conj_turn (e : Int) (c : C4) : turnC ((e * 3) % 8).toNat (conj c) = conj (turnC (e % 8).toNat c) := by
  rcases mod8 e with h | h | h | h | h | h | h | h
  · rw [h, show ((e * 3) % 8).toNat = 0 by omega]; rfl
  · rw [h, show ((e * 3) % 8).toNat = 3 by omega]; apply C4.ext' <;> simp [turnC, turn1, conj]
  · rw [h, show ((e * 3) % 8).toNat = 6 by omega]; apply C4.ext' <;> simp [turnC, turn1, conj]
  · rw [h, show ((e * 3) % 8).toNat = 1 by omega]; apply C4.ext' <;> simp [turnC, turn1, conj]
  · rw [h, show ((e * 3) % 8).toNat = 4 by omega]; apply C4.ext' <;> simp [turnC, turn1, conj]
  · rw [h, show ((e * 3) % 8).toNat = 7 by omega]; apply C4.ext' <;> simp [turnC, turn1, conj]
  · rw [h, show ((e * 3) % 8).toNat = 2 by omega]; apply C4.ext' <;> simp [turnC, turn1, conj]
  · rw [h, show ((e * 3) % 8).toNat = 5 by omega]; apply C4.ext' <;> simp [turnC, turn1, conj]
theorem Bw.up {n m : Nat} {x : Int} (h : Bw n x) (l : Nat.ble n m = true) : Bw m x := h.mono (Nat.le_of_ble_eq_true l)
theorem turn_bw {n : Nat} {c : C4} (h : C4.bw n c) : ∀ k, C4.bw n (turnC k c)
  | 0 => h
  | k + 1 => by
    obtain ⟨a, b, d, e⟩ := turn_bw h k
    exact ⟨e.neg, a, b, d⟩
theorem do_bw {n : Nat} {c : C4} {d : Dd} (ok : d.ok) (h : C4.bw n c) (n1 : 1 ≤ n) : C4.bw (n + 2) (doD d c) := by
  have hh := h
  obtain ⟨wa, wb, wc, wd⟩ := h
  have l2 : ∀ {x : Int}, Bw n x → Bw (n + 2) x := fun h => h.mono (by omega)
  have p3 : ∀ {x y z : Int}, Bw n x → Bw n y → Bw n z → Bw (n + 2) (x + y + z) := fun hx hy hz => ((hx.add hy).add hz).mono (by omega)
  cases d with
  | turn e =>
    obtain ⟨a, b, c, d⟩ := turn_bw hh (e % 8).toNat
    exact ⟨l2 a, l2 b, l2 c, l2 d⟩
  | mirror => exact ⟨l2 wa, l2 wd.neg, l2 wc.neg, l2 wb.neg⟩
  | great => exact ⟨((wa.add wb).sub wd).mono (by omega), p3 wb wa wc, p3 wc wb wd, ((wd.sub wa).add wc).mono (by omega)⟩
  | less => exact ⟨((wb.sub wd).sub wa).mono (by omega), ((wa.add wc).sub wb).mono (by omega), ((wb.add wd).sub wc).mono (by omega), ((wc.sub wa).sub wd).mono (by omega)⟩
  | step d =>
    obtain ⟨h0, h7⟩ := ok
    have o : Bw n (1 : Int) := Bw.one.mono n1
    have p : ∀ {x : Int}, Bw n x → Bw (n + 2) (x + 1) := fun h => (h.add o).mono (by omega)
    have m : ∀ {x : Int}, Bw n x → Bw (n + 2) (x + -1) := fun h => (h.add o.neg).mono (by omega)
    show C4.bw (n + 2) (stepC c d 1)
    rcases dir_cases h0 h7 with rfl | rfl | rfl | rfl | rfl | rfl | rfl | rfl
    · exact ⟨p wa, l2 wb, l2 wc, l2 wd⟩
    · exact ⟨l2 wa, p wb, l2 wc, l2 wd⟩
    · exact ⟨l2 wa, l2 wb, p wc, l2 wd⟩
    · exact ⟨l2 wa, l2 wb, l2 wc, p wd⟩
    · exact ⟨m wa, l2 wb, l2 wc, l2 wd⟩
    · exact ⟨l2 wa, m wb, l2 wc, l2 wd⟩
    · exact ⟨l2 wa, l2 wb, m wc, l2 wd⟩
    · exact ⟨l2 wa, l2 wb, l2 wc, m wd⟩
abbrev s__law_deed : Stmt := top 29
theorem sc__law_deed : FnScope ["state", "kind", "eighths"] ["state"] (defScope s__law_deed) := ⟨rfl, rfl, rfl, by decide +kernel, rfl, by decide +kernel, by decide +kernel⟩

def sp__law_deed (Z : Zs) : Sp := fun vs H Q E =>
  ∃ st sc, vs = [.ref st] ∧ StA H st sc ∧ ∀ u d H', SameX st H H' → StA H' st sc → DeedAt H' u d → d.ok → Q (.ref u) H'
theorem ok__law_deed (T : Txt Z mg) (h__law_draw : Has P w Z.K mg base "_law_draw" 2 ["state", "many"] (sp__law_draw Z)) (h__law_between : Has P w Z.K mg base "_law_between" 3 ["state", "least", "most"] (sp__law_between Z)) (D : AtF Z.K mg "_law_deed" "_law_deed" s__law_deed ["state"]) : Has P w Z.K mg base "_law_deed" 4 ["state"] (sp__law_deed Z) := by
  refine D.ok sc__law_deed (fun vs H Q E h => ?_) (fun cdv A outer s H vs Q E hr h => ?_)
  · obtain ⟨st, sc, rfl, _⟩ := h
    rfl
  · refine ⟨_, (pss_cons (ps_set (i := 1) sc__law_deed.nd rfl (Or.inl rfl) (pe_h (E := ED E) h__law_draw hr (paW (takes_of rfl rfl rfl rfl)) (pa_cons (pv 0) (pa_cons pe_int pa_nil))))
      (C8.pss_cut (ps_if (pt_cmpR op_lt (pv 1) pe_int (nomark _)) (pss_cons (ps_set (i := 2) sc__law_deed.nd rfl (Or.inl rfl) (pe_h (E := ED E) h__law_between hr (paW (takes_of rfl rfl rfl rfl)) (pa_cons (pv 0) (pa_cons (pe_un un_neg pe_int) (pa_cons pe_int pa_nil)))))
      (C8.pss_cut (ps_if (pt_cmpR op_eq (pe_h (E := ED E) h__law_draw hr (paW (takes_of rfl rfl rfl rfl)) (pa_cons (pv 0) (pa_cons pe_int pa_nil))) pe_int (nomark _)) (pss_one (ps_set (i := 2) sc__law_deed.nd rfl (Or.inl rfl) (pe_h (E := ED E) h__law_between hr (paW (takes_of rfl rfl rfl rfl)) (pa_cons (pv 0) (pa_cons (pe_un un_neg (pe_op op_pow pe_int pe_int)) (pa_cons (pe_op op_pow pe_int pe_int) pa_nil)))))) pss_nil)
      (pss_one (ps_ret (pe_tup (pa_cons pe_str (pa_cons (pv 2) pa_nil))))))) pss_nil)
      (pss_cons (ps_if (pt_cmpR op_eq (pv 1) pe_int (nomark _)) (pss_one (ps_ret (pe_tup (pa_cons pe_str (pa_cons pe_int pa_nil))))) pss_nil)
      (pss_cons (ps_if (pt_cmpR op_eq (pv 1) pe_int (nomark _)) (pss_one (ps_ret (pe_tup (pa_cons pe_str (pa_cons pe_int pa_nil))))) pss_nil)
      (pss_cons (ps_if (pt_cmpR op_eq (pv 1) pe_int (nomark _)) (pss_one (ps_ret (pe_tup (pa_cons pe_str (pa_cons pe_int pa_nil))))) pss_nil)
      (pss_one (ps_ret (pe_tup (pa_cons pe_str (pa_cons (pe_h (E := ED E) h__law_draw hr (paW (takes_of rfl rfl rfl rfl)) (pa_cons (pv 0) (pa_cons pe_int pa_nil))) pa_nil)))))))))), ?_⟩
    try simp only [cxOf]
    obtain ⟨st, sc, rfl, hs, q⟩ := h
    have e20 : (10 : Int) ^ Int.toNat 20 = 100000000000000000000 := by decide
    walk_at "W"
    refine k_draw' hs (by decide) (by decide) fun n H1 n0 n1 x1 hs1 => ?_
    walk_at "W"
    refine w_cut (fun σ' H' => (σ' = [some (.ref st), some (.int n), none] ∧ H' = H1)) ?_ ?_
    · walk_at "W"
      refine w_ite (fun _ => ?_) (fun _ => ?_)
      · walk_at "W"
        refine k_between' hs1 (by decide) (by decide) fun e H2 l2 g2 x2 hs2 => ?_
        walk_at "W"
        refine w_cut (fun σ' H' => ∃ e : Int, σ' = [some (.ref st), some (.int n), some (.int e)] ∧ e.natAbs ≤ 10 ^ 20 ∧ SameX st H2 H' ∧ StA H' st sc) ?_ ?_
        · walk_at "W"
          refine k_draw' hs2 (by decide) (by decide) fun m H3 m0 m1 x3 hs3 => ?_
          walk_at "W"
          refine w_ite (fun _ => ?_) (fun _ => ?_)
          · walk_at "W"
            rw [e20]
            refine k_between' hs3 (by decide) (by decide) fun e H4 l4 g4 x4 hs4 => ?_
            walk_at "W"
            exact ⟨e, rfl, by omega, x3.trans x4, hs4⟩
          · walk_at "W"
            exact ⟨e, rfl, by omega, x3, hs3⟩
        rintro σ' H3 ⟨e, rfl, be, x3, hs3⟩
        walk_at "W"
        exact k_tup rfl fun u H4 hu s4 e4 => q u (.turn e) H4 (x1.trans (x2.trans (x3.trans (Same.x s4)))) (hs3.same s4) e4 (bw_of be (by decide))
      · walk_at "W"
        exact ⟨rfl, rfl⟩
    rintro σ' H2 ⟨rfl, rfl⟩
    walk_at "W"
    refine w_ite (fun _ => ?_) (fun _ => ?_)
    · walk_at "W"
      exact k_tup rfl fun u H4 hu s4 e4 => q u .mirror H4 (x1.trans (Same.x s4)) (hs1.same s4) e4 trivial
    walk_at "W"
    refine w_ite (fun _ => ?_) (fun _ => ?_)
    · walk_at "W"
      exact k_tup rfl fun u H4 hu s4 e4 => q u .great H4 (x1.trans (Same.x s4)) (hs1.same s4) e4 trivial
    walk_at "W"
    refine w_ite (fun _ => ?_) (fun _ => ?_)
    · walk_at "W"
      exact k_tup rfl fun u H4 hu s4 e4 => q u .less H4 (x1.trans (Same.x s4)) (hs1.same s4) e4 trivial
    walk_at "W"
    refine k_draw' hs1 (by decide) (by decide) fun d H3 d0 d1 x3 hs3 => ?_
    walk_at "W"
    exact k_tup rfl fun u H4 hu s4 e4 => q u (.step d) H4 (x1.trans (x3.trans (Same.x s4))) (hs3.same s4) e4 ⟨d0, by omega⟩
abbrev s__law_done : Stmt := top 30
theorem sc__law_done : FnScope ["corner", "deed"] ["corner", "deed"] (defScope s__law_done) := ⟨rfl, rfl, rfl, by decide +kernel, rfl, by decide +kernel, by decide +kernel⟩

def sp__law_done (Z : Zs) : Sp := fun vs H Q E =>
  ∃ v c u d, vs = [v, .ref u] ∧ CorAt H v c ∧ DeedAt H u d ∧ d.ok ∧ ∀ v' H', Same H H' → CorAt H' v' (doD d c) → Q v' H'
theorem ok__law_done (T : Txt Z mg) (h_stepped : Has P w Z.K mg base "stepped" 4 ["corner", "direction", "many"] (sp_stepped Z)) (h_lesser : Has P w Z.K mg base "lesser" 4 ["corner"] (sp_lesser Z)) (h_greater : Has P w Z.K mg base "greater" 4 ["corner"] (sp_greater Z)) (h_mirrored : Has P w Z.K mg base "mirrored" 4 ["corner"] (sp_mirrored Z)) (h_turned : Has P w Z.K mg base "turned" 4 ["corner", "eighths"] (sp_turned Z)) (D : AtF Z.K mg "_law_done" "_law_done" s__law_done ["corner", "deed"]) : Has P w Z.K mg base "_law_done" 5 ["corner", "deed"] (sp__law_done Z) := by
  refine D.ok sc__law_done (fun vs H Q E h => ?_) (fun cdv A outer s H vs Q E hr h => ?_)
  · obtain ⟨v, c, u, d, rfl, _⟩ := h
    rfl
  · refine ⟨_, (pss_cons (ps_if (pt_cmpR op_eq (pe_ix ix_seq (pv 1) pe_int (fun _ _ => rfl)) pe_str (nomark _)) (pss_one (ps_ret (pe_h (E := ED E) h_turned hr (paW (takes_of rfl rfl rfl rfl)) (pa_cons (pv 0) (pa_cons (pe_ix ix_seq (pv 1) pe_int (fun _ _ => rfl)) pa_nil))))) pss_nil)
      (pss_cons (ps_if (pt_cmpR op_eq (pe_ix ix_seq (pv 1) pe_int (fun _ _ => rfl)) pe_str (nomark _)) (pss_one (ps_ret (pe_h (E := ED E) h_mirrored hr (paW (takes_of rfl rfl rfl rfl)) (pa_cons (pv 0) pa_nil)))) pss_nil)
      (pss_cons (ps_if (pt_cmpR op_eq (pe_ix ix_seq (pv 1) pe_int (fun _ _ => rfl)) pe_str (nomark _)) (pss_one (ps_ret (pe_h (E := ED E) h_greater hr (paW (takes_of rfl rfl rfl rfl)) (pa_cons (pv 0) pa_nil)))) pss_nil)
      (pss_cons (ps_if (pt_cmpR op_eq (pe_ix ix_seq (pv 1) pe_int (fun _ _ => rfl)) pe_str (nomark _)) (pss_one (ps_ret (pe_h (E := ED E) h_lesser hr (paW (takes_of rfl rfl rfl rfl)) (pa_cons (pv 0) pa_nil)))) pss_nil)
      (pss_one (ps_ret (pe_h (E := ED E) h_stepped hr (paW (takes_of rfl rfl rfl rfl)) (pa_cons (pv 0) (pa_cons (pe_ix ix_seq (pv 1) pe_int (fun _ _ => rfl)) (pa_cons pe_int pa_nil)))))))))), ?_⟩
    try simp only [cxOf]
    obtain ⟨v, c, u, d, rfl, hc, hd, ok, q⟩ := h
    cases d with
    | turn e =>
      have hd : H u = some (.tup [.str "turn", .int e]) := hd
      walk_at "W"
      exact ⟨_, _, rfl, .inl ⟨c, hc, q⟩⟩
    | mirror =>
      have hd : H u = some (.tup [.str "mirror", .int 0]) := hd
      walk_at "W"
      exact ⟨_, rfl, .inl ⟨c, hc, q⟩⟩
    | great =>
      have hd : H u = some (.tup [.str "greater", .int 0]) := hd
      walk_at "W"
      exact ⟨_, rfl, .inl ⟨c, hc, q⟩⟩
    | less =>
      have hd : H u = some (.tup [.str "lesser", .int 0]) := hd
      walk_at "W"
      exact ⟨_, rfl, .inl ⟨c, hc, q⟩⟩
    | step d =>
      have hd : H u = some (.tup [.str "step", .int d]) := hd
      walk_at "W"
      exact ⟨v, _, c, 1, rfl, .inr ⟨hc, (Plain.int _).thI, .inr ⟨d, rfl, .inr ⟨ok, q⟩⟩⟩⟩
abbrev s__law_undone : Stmt := top 31
theorem sc__law_undone : FnScope ["deed"] ["deed"] (defScope s__law_undone) := ⟨rfl, rfl, rfl, by decide +kernel, rfl, by decide +kernel, by decide +kernel⟩

def sp__law_undone (Z : Zs) : Sp := fun vs H Q E =>
  ∃ u d, vs = [.ref u] ∧ DeedAt H u d ∧ d.ok ∧ ∀ u' H', Same H H' → DeedAt H' u' (undoD d) → Q (.ref u') H'
theorem ok__law_undone (T : Txt Z mg)  (D : AtF Z.K mg "_law_undone" "_law_undone" s__law_undone ["deed"]) : Has P w Z.K mg base "_law_undone" 1 ["deed"] (sp__law_undone Z) := by
  refine D.ok sc__law_undone (fun vs H Q E h => ?_) (fun cdv A outer s H vs Q E hr h => ?_)
  · obtain ⟨u, d, rfl, _⟩ := h
    rfl
  · refine ⟨_, (pss_cons (ps_if (pt_cmpR op_eq (pe_ix ix_seq (pv 0) pe_int (fun _ _ => rfl)) pe_str (nomark _)) (pss_one (ps_ret (pe_tup (pa_cons pe_str (pa_cons (pe_un un_neg (pe_ix ix_seq (pv 0) pe_int (fun _ _ => rfl))) pa_nil))))) pss_nil)
      (pss_cons (ps_if (pt_cmpR op_eq (pe_ix ix_seq (pv 0) pe_int (fun _ _ => rfl)) pe_str (nomark _)) (pss_one (ps_ret (pv 0))) pss_nil)
      (pss_cons (ps_if (pt_cmpR op_eq (pe_ix ix_seq (pv 0) pe_int (fun _ _ => rfl)) pe_str (nomark _)) (pss_one (ps_ret (pe_tup (pa_cons pe_str (pa_cons pe_int pa_nil))))) pss_nil)
      (pss_cons (ps_if (pt_cmpR op_eq (pe_ix ix_seq (pv 0) pe_int (fun _ _ => rfl)) pe_str (nomark _)) (pss_one (ps_ret (pe_tup (pa_cons pe_str (pa_cons pe_int pa_nil))))) pss_nil)
      (pss_one (ps_ret (pe_tup (pa_cons pe_str (pa_cons (pe_op op_mod (pe_callTy cn_int rfl T.n_int (by decide +kernel) (pa_cons (pe_op op_add (pe_ix ix_seq (pv 0) pe_int (fun _ _ => rfl)) pe_int) pa_nil)) pe_int) pa_nil))))))))), ?_⟩
    try simp only [cxOf]
    obtain ⟨u, d, rfl, hd, ok, q⟩ := h
    cases d with
    | turn e =>
      have hd : H u = some (.tup [.str "turn", .int e]) := hd
      walk_at "W"
      exact k_tup rfl fun t H1 ht s1 e1 => q t H1 s1 e1
    | mirror =>
      have hd : H u = some (.tup [.str "mirror", .int 0]) := hd
      walk_at "W"
      exact q u H (Same.refl _) hd
    | great =>
      have hd : H u = some (.tup [.str "greater", .int 0]) := hd
      walk_at "W"
      exact k_tup rfl fun t H1 ht s1 e1 => q t H1 s1 e1
    | less =>
      have hd : H u = some (.tup [.str "lesser", .int 0]) := hd
      walk_at "W"
      exact k_tup rfl fun t H1 ht s1 e1 => q t H1 s1 e1
    | step d =>
      have hd : H u = some (.tup [.str "step", .int d]) := hd
      walk_at "W"
      exact k_tup rfl fun t H1 ht s1 e1 => q t H1 s1 e1
/-- the size of the number behind k turns -/
def nb (k : Nat) : Nat := 2 ^ (k + 2) - 3
theorem b3_of {t r b : Int} {n : Nat} (h1 : Bw n t) (h2 : Bw n r) (h3 : Bw n b) (l : n ≤ 1000) : B3 t r b := ⟨h1.mono l, h2.mono l, h3.mono l⟩
/-- the parts of a point are not too great -/
theorem led_b3 {c : C4} {m n : Nat} {s : Int} (h : C4.bw m c) (w : Bw n s) (l : m + n + 2 ≤ 1000) : B3 (2 * c.a * s) ((c.b - c.d) * s) (2 * s) ∧ B3 (2 * c.c * s) ((c.b + c.d) * s) (2 * s) := by
  obtain ⟨wa, wb, wc, wd⟩ := h
  exact ⟨b3_of (((Bw.two.mul wa).mul w).mono (by omega)) (((wb.sub wd).mul w).mono (by omega)) ((Bw.two.mul w).mono (Nat.le_refl (2 + n)) |>.mono (by omega : 2 + n ≤ m + n + 2)) l,
    b3_of (((Bw.two.mul wc).mul w).mono (by omega)) (((wb.add wd).mul w).mono (by omega)) ((Bw.two.mul w).mono (Nat.le_refl (2 + n)) |>.mono (by omega : 2 + n ≤ m + n + 2)) l⟩

theorem nb_le {i : Nat} (h : i ≤ 7) : nb i ≤ 509 := by
  have : i = 0 ∨ i = 1 ∨ i = 2 ∨ i = 3 ∨ i = 4 ∨ i = 5 ∨ i = 6 ∨ i = 7 := by omega
  rcases this with rfl | rfl | rfl | rfl | rfl | rfl | rfl | rfl <;> decide
theorem nb_le6 {i : Nat} (h : i ≤ 6) : nb i ≤ 253 := by
  have : i = 0 ∨ i = 1 ∨ i = 2 ∨ i = 3 ∨ i = 4 ∨ i = 5 ∨ i = 6 := by omega
  rcases this with rfl | rfl | rfl | rfl | rfl | rfl | rfl <;> decide
theorem nb_succ (i : Nat) : 3 + nb i + nb i = nb (i + 1) := by
  unfold nb
  have h1 : 2 ^ (i + 1 + 2) = 2 * 2 ^ (i + 2) := by rw [show i + 1 + 2 = (i + 2) + 1 from by omega, Nat.pow_succ]; omega
  have h2 : 4 ≤ 2 ^ (i + 2) := by rw [Nat.pow_add]; have := Nat.one_le_two_pow (n := i); omega
  omega
theorem Bw.four : Bw 3 4 := by unfold Bw; decide
abbrev s__law_turn : Stmt := top 32
theorem sc__law_turn : FnScope ["point", "eighths", "part", "k", "x", "y"] ["point", "eighths"] (defScope s__law_turn) := ⟨rfl, rfl, rfl, by decide +kernel, rfl, by decide +kernel, by decide +kernel⟩

def sp__law_turn (Z : Zs) : Sp := fun vs H Q E =>
  ∃ u c e, vs = [.ref u, .int e] ∧ LedAt H u c 1 ∧ C4.bw 170 c ∧ ∀ u' H', Same H H' → LedAt H' u' (turnC (e % 8).toNat c) 509 → Q (.ref u') H'
theorem ok__law_turn (T : Txt Z mg) (h__law_times : Has P w Z.K mg base "_law_times" 1 ["one", "other"] (sp__law_times Z)) (h__law_plus : Has P w Z.K mg base "_law_plus" 1 ["one", "other"] (sp__law_plus Z)) (h__law_minus : Has P w Z.K mg base "_law_minus" 1 ["one", "other"] (sp__law_minus Z)) (D : AtF Z.K mg "_law_turn" "_law_turn" s__law_turn ["point", "eighths"]) : Has P w Z.K mg base "_law_turn" 2 ["point", "eighths"] (sp__law_turn Z) := by
  refine D.ok sc__law_turn (fun vs H Q E h => ?_) (fun cdv A outer s H vs Q E hr h => ?_)
  · obtain ⟨u, c, e, rfl, _⟩ := h
    rfl
  · refine ⟨_, (pss_cons (ps_set (i := 2) sc__law_turn.nd rfl (Or.inl rfl) (pe_tup (pa_cons pe_int (pa_cons pe_int (pa_cons pe_int pa_nil)))))
      (pss_cons (ps_for (passes_of rfl) rfl (pi_range1 rfl T.n_range (pa_cons (pe_op op_mod (pe_callTy cn_int rfl T.n_int (by decide +kernel) (pa_cons (pv 1) pa_nil)) pe_int) pa_nil)) (pg_name (i := 3) sc__law_turn.nd rfl (Or.inl rfl)) (pss_cons (ps_set (i := 4) sc__law_turn.nd rfl (Or.inl rfl) (pe_h (E := ED E) h__law_times hr (paW (takes_of rfl rfl rfl rfl)) (pa_cons (pv 2) (pa_cons (pe_h (E := ED E) h__law_minus hr (paW (takes_of rfl rfl rfl rfl)) (pa_cons (pe_ix ix_seq (pv 0) pe_int (fun _ _ => rfl)) (pa_cons (pe_ix ix_seq (pv 0) pe_int (fun _ _ => rfl)) pa_nil))) pa_nil))))
      (pss_cons (ps_set (i := 5) sc__law_turn.nd rfl (Or.inl rfl) (pe_h (E := ED E) h__law_times hr (paW (takes_of rfl rfl rfl rfl)) (pa_cons (pv 2) (pa_cons (pe_h (E := ED E) h__law_plus hr (paW (takes_of rfl rfl rfl rfl)) (pa_cons (pe_ix ix_seq (pv 0) pe_int (fun _ _ => rfl)) (pa_cons (pe_ix ix_seq (pv 0) pe_int (fun _ _ => rfl)) pa_nil))) pa_nil))))
      (pss_one (ps_set (i := 0) sc__law_turn.nd rfl (Or.inl rfl) (pe_tup (pa_cons (pv 4) (pa_cons (pv 5) pa_nil))))))))
      (pss_one (ps_ret (pv 0))))), ?_⟩
    try simp only [cxOf]
    obtain ⟨u, c, e, rfl, hu, wc, q⟩ := h
    walk_at "W"
    refine k_tup rfl fun pt H1 hpt s1 e1 => ?_
    walk_at "W"
    refine k_forR (fun i σ' H' => Same H1 H' ∧ ∃ u x y z, σ' = [some (.ref u), some (.int e), some (.ref pt), x, y, z] ∧ LedAt H' u (turnC i c) (nb i)) (by omega) (by omega) ⟨Same.refl _, u, none, none, none, rfl, hu.same s1⟩ ?_ ?_
    · rintro i σ' H2 hi ⟨s2, u, x, y, z, rfl, p, p', sa, sb, hu, h1, h2, na, nb', wa, wb⟩
      have hi6 : i ≤ 6 := by omega
      have wi := turn_bw wc i
      have l6 := nb_le6 hi6
      have ept : T3 H2 pt 0 1 2 := s2 _ _ e1
      obtain ⟨b1, -⟩ := led_b3 wi wa (by omega)
      obtain ⟨-, b2⟩ := led_b3 wi wb (by omega)
      obtain ⟨va, vb, vc, vd⟩ := wi
      have o1 : B3 0 1 2 := b3_of (n := 2) (Bw.zero.mono (by decide)) (Bw.one.mono (by decide)) Bw.two (by decide)
      have ws : Bw (nb (i + 1)) (4 * sa * sb) := by rw [← nb_succ]; exact (Bw.four.mul wa).mul wb
      have n4 : 4 * sa * sb ≠ 0 := Int.mul_ne_zero (Int.mul_ne_zero (by decide) na) nb'
      have mS : ∀ {x y : Int}, Bw (171 + nb i + 0) x → Bw (2 + nb i) y → Bw (173 + 2 * nb i) (x * y) := fun hx hy => (hx.mul hy).mono (by omega)
      have xa : ∀ {s : Int}, Bw (nb i) s → Bw (172 + nb i) (2 * (turnC i c).a * s) := fun h => ((Bw.two.mul va).mul h).mono (by omega)
      have xc : ∀ {s : Int}, Bw (nb i) s → Bw (172 + nb i) (2 * (turnC i c).c * s) := fun h => ((Bw.two.mul vc).mul h).mono (by omega)
      have xm : ∀ {s : Int}, Bw (nb i) s → Bw (171 + nb i) (((turnC i c).b - (turnC i c).d) * s) := fun h => ((vb.sub vd).mul h).mono (by omega)
      have xp : ∀ {s : Int}, Bw (nb i) s → Bw (171 + nb i) (((turnC i c).b + (turnC i c).d) * s) := fun h => ((vb.add vd).mul h).mono (by omega)
      have x2 : ∀ {s : Int}, Bw (nb i) s → Bw (2 + nb i) (2 * s) := fun h => Bw.two.mul h
      have bm : B3 (minus.t (2 * (turnC i c).a * sa) (((turnC i c).b - (turnC i c).d) * sa) (2 * sa) (2 * (turnC i c).c * sb) (((turnC i c).b + (turnC i c).d) * sb) (2 * sb)) (minus.r (2 * (turnC i c).a * sa) (((turnC i c).b - (turnC i c).d) * sa) (2 * sa) (2 * (turnC i c).c * sb) (((turnC i c).b + (turnC i c).d) * sb) (2 * sb)) (minus.b (2 * (turnC i c).a * sa) (((turnC i c).b - (turnC i c).d) * sa) (2 * sa) (2 * (turnC i c).c * sb) (((turnC i c).b + (turnC i c).d) * sb) (2 * sb)) :=
        ⟨(((xa wa).mul (x2 wb)).sub ((xc wb).mul (x2 wa))).mono (by omega), (((xm wa).mul (x2 wb)).sub ((xp wb).mul (x2 wa))).mono (by omega), ((x2 wa).mul (x2 wb)).mono (by omega)⟩
      have bp : B3 (plus.t (2 * (turnC i c).a * sa) (((turnC i c).b - (turnC i c).d) * sa) (2 * sa) (2 * (turnC i c).c * sb) (((turnC i c).b + (turnC i c).d) * sb) (2 * sb)) (plus.r (2 * (turnC i c).a * sa) (((turnC i c).b - (turnC i c).d) * sa) (2 * sa) (2 * (turnC i c).c * sb) (((turnC i c).b + (turnC i c).d) * sb) (2 * sb)) (plus.b (2 * (turnC i c).a * sa) (((turnC i c).b - (turnC i c).d) * sa) (2 * sa) (2 * (turnC i c).c * sb) (((turnC i c).b + (turnC i c).d) * sb) (2 * sb)) :=
        ⟨(((xa wa).mul (x2 wb)).add ((xc wb).mul (x2 wa))).mono (by omega), (((xm wa).mul (x2 wb)).add ((xp wb).mul (x2 wa))).mono (by omega), ((x2 wa).mul (x2 wb)).mono (by omega)⟩
      walk_at "W"
      refine ⟨p, p', _, _, _, _, _, _, rfl, h1, h2, b1, b2, fun u3 H3 f3 s3 e3 => ?_⟩
      walk_at "W"
      refine ⟨pt, u3, _, _, _, _, _, _, rfl, s3 _ _ ept, e3, o1, bm, fun u4 H4 f4 s4 e4 => ?_⟩
      have S4 := s3.trans s4
      have hu4 := S4 _ _ hu
      walk_at "W"
      refine ⟨p, p', _, _, _, _, _, _, rfl, S4 _ _ h1, S4 _ _ h2, b1, b2, fun u5 H5 f5 s5 e5 => ?_⟩
      walk_at "W"
      refine ⟨pt, u5, _, _, _, _, _, _, rfl, s5 _ _ (S4 _ _ ept), e5, o1, bp, fun u6 H6 f6 s6 e6 => ?_⟩
      walk_at "W"
      refine k_tup rfl fun u7 H7 f7 s7 e7 => ?_
      walk_at "W"
      refine ⟨s2.trans (S4.trans (s5.trans (s6.trans s7))), u7, _, _, _, rfl, led_of (s := 4 * sa * sb) (s' := 4 * sa * sb) e7 (s7 _ _ (s6 _ _ (s5 _ _ e4))) (s7 _ _ e6) ?_ ?_ ?_ ?_ ?_ ?_ n4 n4 ws ws⟩
      all_goals
        simp only [turnC, turn1, plus, minus, times]
        generalize (turnC i c).a = A
        generalize (turnC i c).b = B
        generalize (turnC i c).c = C
        generalize (turnC i c).d = D
        grind
    · rintro σ' H2 ⟨s2, u, x, y, z, rfl, hu⟩
      walk_at "W"
      exact q u H2 (s1.trans s2) (hu.mono (nb_le (by omega)))
abbrev s__law_scaled : Stmt := top 33
theorem sc__law_scaled : FnScope ["point", "number"] ["point", "number"] (defScope s__law_scaled) := ⟨rfl, rfl, rfl, by decide +kernel, rfl, by decide +kernel, by decide +kernel⟩

def sp__law_scaled (Z : Zs) : Sp := fun vs H Q E =>
  ∃ u pn c c' k l, vs = [.ref u, .ref pn] ∧ LedAt H u c 1 ∧ C4.bw 170 c ∧ T3 H pn k l 1 ∧ Bw 1 k ∧ Bw 1 l ∧ c'.a = k * c.a + l * (c.b - c.d) ∧ c'.b - c'.d = k * (c.b - c.d) + l * (2 * c.a) ∧ c'.c = k * c.c + l * (c.b + c.d) ∧ c'.b + c'.d = k * (c.b + c.d) + l * (2 * c.c) ∧
    ∀ u' H', Same H H' → LedAt H' u' c' 1 → Q (.ref u') H'
theorem ok__law_scaled (T : Txt Z mg) (h__law_times : Has P w Z.K mg base "_law_times" 1 ["one", "other"] (sp__law_times Z)) (D : AtF Z.K mg "_law_scaled" "_law_scaled" s__law_scaled ["point", "number"]) : Has P w Z.K mg base "_law_scaled" 2 ["point", "number"] (sp__law_scaled Z) := by
  refine D.ok sc__law_scaled (fun vs H Q E h => ?_) (fun cdv A outer s H vs Q E hr h => ?_)
  · obtain ⟨u, pn, c, c', k, l, rfl, _⟩ := h
    rfl
  · refine ⟨_, (pss_one (ps_ret (pe_tup (pa_cons (pe_h (E := ED E) h__law_times hr (paW (takes_of rfl rfl rfl rfl)) (pa_cons (pv 1) (pa_cons (pe_ix ix_seq (pv 0) pe_int (fun _ _ => rfl)) pa_nil))) (pa_cons (pe_h (E := ED E) h__law_times hr (paW (takes_of rfl rfl rfl rfl)) (pa_cons (pv 1) (pa_cons (pe_ix ix_seq (pv 0) pe_int (fun _ _ => rfl)) pa_nil))) pa_nil))))), ?_⟩
    try simp only [cxOf]
    obtain ⟨u, pn, c, c', k, l, rfl, ⟨p, p', sa, sb, hu, h1, h2, na, nb', wa, wb⟩, wc, hn, wk, wl, g1, g2, g3, g4, q⟩ := h
    obtain ⟨b1, -⟩ := led_b3 wc wa (by omega)
    obtain ⟨-, b2⟩ := led_b3 wc wb (by omega)
    have o1 : B3 k l 1 := b3_of wk wl Bw.one (by decide)
    walk_at "W"
    refine ⟨pn, p, _, _, _, _, _, _, rfl, hn, h1, o1, b1, fun u3 H3 f3 s3 e3 => ?_⟩
    have hu3 := s3 _ _ hu
    walk_at "W"
    refine ⟨pn, p', _, _, _, _, _, _, rfl, s3 _ _ hn, s3 _ _ h2, o1, b2, fun u4 H4 f4 s4 e4 => ?_⟩
    walk_at "W"
    refine k_tup rfl fun u5 H5 f5 s5 e5 => ?_
    refine q u5 H5 (s3.trans (s4.trans s5)) (led_of (s := sa) (s' := sb) e5 (s5 _ _ (s4 _ _ e3)) (s5 _ _ e4) ?_ ?_ ?_ ?_ ?_ ?_ na nb' wa wb)
    · show k * (2 * c.a * sa) + 2 * l * ((c.b - c.d) * sa) = 2 * c'.a * sa
      rw [g1]; grind
    · show k * ((c.b - c.d) * sa) + l * (2 * c.a * sa) = (c'.b - c'.d) * sa
      rw [g2]; grind
    · show 1 * (2 * sa) = 2 * sa
      omega
    · show k * (2 * c.c * sb) + 2 * l * ((c.b + c.d) * sb) = 2 * c'.c * sb
      rw [g3]; grind
    · show k * ((c.b + c.d) * sb) + l * (2 * c.c * sb) = (c'.b + c'.d) * sb
      rw [g4]; grind
    · show 1 * (2 * sb) = 2 * sb
      omega
def unitC (d : Int) : C4 := stepC ⟨0, 0, 0, 0⟩ d 1
theorem unit_bw {d : Int} (h0 : 0 ≤ d) (h7 : d ≤ 7) : C4.bw 1 (unitC d) := by
  have z := Bw.zero
  have o := Bw.one
  have m : Bw 1 (-1) := Bw.one.neg
  rcases dir_cases h0 h7 with rfl | rfl | rfl | rfl | rfl | rfl | rfl | rfl
  · exact ⟨o, z, z, z⟩
  · exact ⟨z, o, z, z⟩
  · exact ⟨z, z, o, z⟩
  · exact ⟨z, z, z, o⟩
  · exact ⟨m, z, z, z⟩
  · exact ⟨z, m, z, z⟩
  · exact ⟨z, z, m, z⟩
  · exact ⟨z, z, z, m⟩
theorem unit_add {d : Int} (h0 : 0 ≤ d) (h7 : d ≤ 7) (c : C4) : (stepC c d 1).a = c.a + (unitC d).a ∧ (stepC c d 1).b = c.b + (unitC d).b ∧ (stepC c d 1).c = c.c + (unitC d).c ∧ (stepC c d 1).d = c.d + (unitC d).d := by
  rcases dir_cases h0 h7 with rfl | rfl | rfl | rfl | rfl | rfl | rfl | rfl <;> (simp [unitC, stepC, C4.plus])
abbrev s__law_unit : Stmt := top 34
theorem sc__law_unit : FnScope ["way", "corner"] ["way"] (defScope s__law_unit) := ⟨rfl, rfl, rfl, by decide +kernel, rfl, by decide +kernel, by decide +kernel⟩

def sp__law_unit (Z : Zs) : Sp := fun vs H Q E =>
  ∃ d, vs = [.int d] ∧ 0 ≤ d ∧ d ≤ 7 ∧ ∀ p H', Same H H' → Four H' p (unitC d) → Q (.ref p) H'
theorem ok__law_unit (T : Txt Z mg)  (D : AtF Z.K mg "_law_unit" "_law_unit" s__law_unit ["way"]) : Has P w Z.K mg base "_law_unit" 1 ["way"] (sp__law_unit Z) := by
  refine D.ok sc__law_unit (fun vs H Q E h => ?_) (fun cdv A outer s H vs Q E hr h => ?_)
  · obtain ⟨d, rfl, _⟩ := h
    rfl
  · refine ⟨_, (pss_cons (ps_set (i := 1) sc__law_unit.nd rfl (Or.inl rfl) (pe_lst (pa_cons pe_int (pa_cons pe_int (pa_cons pe_int (pa_cons pe_int pa_nil))))))
      (pss_cons (ps_asg (pe_ifExp (pt_cmpR op_lt (pv 0) pe_int (nomark _)) pe_int (pe_un un_neg pe_int)) (pg_sub (pv 1) (pe_op op_mod (pe_callTy cn_int rfl T.n_int (by decide +kernel) (pa_cons (pv 0) pa_nil)) pe_int) set_list))
      (pss_one (ps_ret (pv 1))))), ?_⟩
    try simp only [cxOf]
    obtain ⟨d, rfl, h0, h7, q⟩ := h
    walk_at "W"
    refine k_lst rfl fun l H1 hl s1 e1 => ?_
    have fin : ∀ {x y z u : Int} {H2 : Hp}, SameX l H1 H2 → H2 l = some (.lst [.int x, .int y, .int z, .int u]) → (⟨x, y, z, u⟩ : C4) = unitC d → Q (.ref l) H2 := fun {x y z u H2} s2 e2 e => by
      refine q l H2 (fun b o eb => s2 b o (ne_of_none eb hl) (s1 _ _ eb)) ?_
      rw [← e]
      exact .inl e2
    rcases dir_cases h0 h7 with rfl | rfl | rfl | rfl | rfl | rfl | rfl | rfl
    all_goals
      walk_at "W"
      refine w_setL e1 rfl fun H2 s2 e2 => ?_
      walk_at "W"
      exact fin s2 e2 (by simp [unitC, stepC, C4.plus])
theorem conj_conj (c : C4) : conj (conj c) = c := by apply C4.ext' <;> simp [conj]
theorem conj_bw {n : Nat} {c : C4} (h : C4.bw n c) : C4.bw n (conj c) := ⟨h.1, h.2.2.2, h.2.2.1.neg, h.2.1⟩
abbrev s__law_led : Stmt := top 35
theorem sc__law_led : FnScope ["point", "deed", "is_star", "unit"] ["point", "deed", "is_star"] (defScope s__law_led) := ⟨rfl, rfl, rfl, by decide +kernel, rfl, by decide +kernel, by decide +kernel⟩

def sp__law_led (Z : Zs) : Sp := fun vs H Q E =>
  ∃ u ud c d st, vs = [.ref u, .ref ud, .bl st] ∧ LedAt H u (if st then conj c else c) 1 ∧ C4.bw 170 c ∧ DeedAt H ud d ∧ d.ok ∧ ∀ u' H', Same H H' → LedAt H' u' (if st then conj (doD d c) else doD d c) 509 → Q (.ref u') H'
theorem ok__law_led (T : Txt Z mg) (h__law_plus : Has P w Z.K mg base "_law_plus" 1 ["one", "other"] (sp__law_plus Z)) (h__law_star : Has P w Z.K mg base "_law_star" 1 ["corner"] (sp__law_star Z)) (h__law_unit : Has P w Z.K mg base "_law_unit" 1 ["way"] (sp__law_unit Z)) (h__law_place : Has P w Z.K mg base "_law_place" 1 ["corner"] (sp__law_place Z)) (h__law_scaled : Has P w Z.K mg base "_law_scaled" 2 ["point", "number"] (sp__law_scaled Z)) (h__law_minus : Has P w Z.K mg base "_law_minus" 1 ["one", "other"] (sp__law_minus Z)) (h__law_turn : Has P w Z.K mg base "_law_turn" 2 ["point", "eighths"] (sp__law_turn Z)) (D : AtF Z.K mg "_law_led" "_law_led" s__law_led ["point", "deed", "is_star"]) : Has P w Z.K mg base "_law_led" 3 ["point", "deed", "is_star"] (sp__law_led Z) := by
  refine D.ok sc__law_led (fun vs H Q E h => ?_) (fun cdv A outer s H vs Q E hr h => ?_)
  · obtain ⟨u, ud, c, d, st, rfl, _⟩ := h
    rfl
  · refine ⟨_, (pss_cons (ps_if (pt_cmpR op_eq (pe_ix ix_seq (pv 1) pe_int (fun _ _ => rfl)) pe_str (nomark _)) (pss_one (ps_ret (pe_h (E := ED E) h__law_turn hr (paW (takes_of rfl rfl rfl rfl)) (pa_cons (pv 0) (pa_cons (pe_ifExp (pt_truth (pv 2) (by intro _; rfl)) (pe_op op_mulS (pe_ix ix_seq (pv 1) pe_int (fun _ _ => rfl)) pe_int) (pe_ix ix_seq (pv 1) pe_int (fun _ _ => rfl))) pa_nil))))) pss_nil)
      (pss_cons (ps_if (pt_cmpR op_eq (pe_ix ix_seq (pv 1) pe_int (fun _ _ => rfl)) pe_str (nomark _)) (pss_one (ps_ret (pe_tup (pa_cons (pe_ix ix_seq (pv 0) pe_int (fun _ _ => rfl)) (pa_cons (pe_h (E := ED E) h__law_minus hr (paW (takes_of rfl rfl rfl rfl)) (pa_cons (pe_tup (pa_cons pe_int (pa_cons pe_int (pa_cons pe_int pa_nil)))) (pa_cons (pe_ix ix_seq (pv 0) pe_int (fun _ _ => rfl)) pa_nil))) pa_nil))))) pss_nil)
      (pss_cons (ps_if (pt_cmpR op_eq (pe_ix ix_seq (pv 1) pe_int (fun _ _ => rfl)) pe_str (nomark _)) (pss_one (ps_ret (pe_h (E := ED E) h__law_scaled hr (paW (takes_of rfl rfl rfl rfl)) (pa_cons (pv 0) (pa_cons (pe_ifExp (pt_truth (pv 2) (by intro _; rfl)) (pe_tup (pa_cons pe_int (pa_cons (pe_un un_neg pe_int) (pa_cons pe_int pa_nil)))) (pe_tup (pa_cons pe_int (pa_cons pe_int (pa_cons pe_int pa_nil))))) pa_nil))))) pss_nil)
      (pss_cons (ps_if (pt_cmpR op_eq (pe_ix ix_seq (pv 1) pe_int (fun _ _ => rfl)) pe_str (nomark _)) (pss_one (ps_ret (pe_h (E := ED E) h__law_scaled hr (paW (takes_of rfl rfl rfl rfl)) (pa_cons (pv 0) (pa_cons (pe_ifExp (pt_truth (pv 2) (by intro _; rfl)) (pe_tup (pa_cons (pe_un un_neg pe_int) (pa_cons (pe_un un_neg pe_int) (pa_cons pe_int pa_nil)))) (pe_tup (pa_cons (pe_un un_neg pe_int) (pa_cons pe_int (pa_cons pe_int pa_nil))))) pa_nil))))) pss_nil)
      (C8.pss_cut (ps_set (i := 3) sc__law_led.nd rfl (Or.inl rfl) (pe_ifExp (pt_truth (pv 2) (by intro _; rfl)) (pe_h (E := ED E) h__law_star hr (paW (takes_of rfl rfl rfl rfl)) (pa_cons (pe_h (E := ED E) h__law_unit hr (paW (takes_of rfl rfl rfl rfl)) (pa_cons (pe_ix ix_seq (pv 1) pe_int (fun _ _ => rfl)) pa_nil)) pa_nil)) (pe_h (E := ED E) h__law_place hr (paW (takes_of rfl rfl rfl rfl)) (pa_cons (pe_h (E := ED E) h__law_unit hr (paW (takes_of rfl rfl rfl rfl)) (pa_cons (pe_ix ix_seq (pv 1) pe_int (fun _ _ => rfl)) pa_nil)) pa_nil))))
      (pss_one (ps_ret (pe_tup (pa_cons (pe_h (E := ED E) h__law_plus hr (paW (takes_of rfl rfl rfl rfl)) (pa_cons (pe_ix ix_seq (pv 0) pe_int (fun _ _ => rfl)) (pa_cons (pe_ix ix_seq (pv 3) pe_int (fun _ _ => rfl)) pa_nil))) (pa_cons (pe_h (E := ED E) h__law_plus hr (paW (takes_of rfl rfl rfl rfl)) (pa_cons (pe_ix ix_seq (pv 0) pe_int (fun _ _ => rfl)) (pa_cons (pe_ix ix_seq (pv 3) pe_int (fun _ _ => rfl)) pa_nil))) pa_nil)))))))))), ?_⟩
    try simp only [cxOf]
    obtain ⟨u, ud, c, d, st, rfl, hu, wc, hd, ok, q⟩ := h
    have l9 : ∀ {H : Hp} {u : Addr} {c : C4} {n : Nat}, LedAt H u c n → Nat.ble n 509 = true → LedAt H u c 509 := fun h l => h.mono (Nat.le_of_ble_eq_true l)
    cases d with
    | turn e =>
      have hd : H ud = some (.tup [.str "turn", .int e]) := hd
      cases st with
      | true =>
        walk_at "W"
        refine ⟨_, rfl, ?_⟩
        walk_at "W"
        exact ⟨u, conj c, _, rfl, hu, conj_bw wc, fun u' H' s h => q u' H' s (by rw [conj_turn] at h; exact h)⟩
      | false =>
        walk_at "W"
        refine ⟨_, rfl, ?_⟩
        walk_at "W"
        exact ⟨u, c, _, rfl, hu, wc, fun u' H' s h => q u' H' s h⟩
    | mirror =>
      have hd : H ud = some (.tup [.str "mirror", .int 0]) := hd
      obtain ⟨c1, hc1, wc1, hq⟩ : ∃ c1, LedAt H u c1 1 ∧ C4.bw 170 c1 ∧ ∀ u' H', Same H H' → LedAt H' u' (mirC c1) 1 → Q (.ref u') H' := by
        cases st with
        | true => exact ⟨conj c, hu, conj_bw wc, fun u' H' s h => q u' H' s (l9 (by rw [show mirC (conj c) = conj (mirC c) from by apply C4.ext' <;> simp [mirC, conj]] at h; exact h) rfl)⟩
        | false => exact ⟨c, hu, wc, fun u' H' s h => q u' H' s (l9 h rfl)⟩
      obtain ⟨p, p', sa, sb, hu, h1, h2, na, nb', wa, wb⟩ := hc1
      obtain ⟨-, b2⟩ := led_b3 wc1 wb (by omega)
      walk_at "W"
      refine k_tup rfl fun pt H1 hpt s1 e1 => ?_
      have hu1 := s1 _ _ hu
      walk_at "W"
      refine ⟨pt, p', 0, 0, 1, _, _, _, rfl, e1, s1 _ _ h2, b3_of (n := 1) Bw.zero Bw.zero Bw.one (by decide), b2, fun u3 H3 f3 s3 e3 => ?_⟩
      walk_at "W"
      refine k_tup rfl fun u5 H5 f5 s5 e5 => ?_
      refine hq u5 H5 (s1.trans (s3.trans s5)) (led_of (s := sa) (s' := sb) e5 (s5 _ _ (s3 _ _ (s1 _ _ h1))) (s5 _ _ e3) rfl ?_ rfl ?_ ?_ ?_ na nb' wa wb)
      · show (c1.b - c1.d) * sa = (-c1.d - -c1.b) * sa
        grind
      · show 0 * (2 * sb) - 2 * c1.c * sb * 1 = 2 * -c1.c * sb
        grind
      · show 0 * (2 * sb) - (c1.b + c1.d) * sb * 1 = (-c1.d + -c1.b) * sb
        grind
      · show 1 * (2 * sb) = 2 * sb
        omega
    | great =>
      have hd : H ud = some (.tup [.str "greater", .int 0]) := hd
      cases st with
      | true =>
        walk_at "W"
        refine ⟨_, rfl, ?_⟩
        walk_at "W"
        refine k_tup rfl fun pt H1 hpt s1 e1 => ?_
        walk_at "W"
        refine ⟨u, pt, conj c, conj (greC c), 1, -1, rfl, LedAt.same hu s1, conj_bw wc, e1, Bw.one, Bw.one.neg, ?_, ?_, ?_, ?_, fun u' H' s h => q u' H' (s1.trans s) (l9 h rfl)⟩ <;> (simp only [conj, greC]; omega)
      | false =>
        walk_at "W"
        refine ⟨_, rfl, ?_⟩
        walk_at "W"
        refine k_tup rfl fun pt H1 hpt s1 e1 => ?_
        walk_at "W"
        refine ⟨u, pt, c, greC c, 1, 1, rfl, LedAt.same hu s1, wc, e1, Bw.one, Bw.one, ?_, ?_, ?_, ?_, fun u' H' s h => q u' H' (s1.trans s) (l9 h rfl)⟩ <;> (simp only [greC]; omega)
    | less =>
      have hd : H ud = some (.tup [.str "lesser", .int 0]) := hd
      cases st with
      | true =>
        walk_at "W"
        refine ⟨_, rfl, ?_⟩
        walk_at "W"
        refine k_tup rfl fun pt H1 hpt s1 e1 => ?_
        walk_at "W"
        refine ⟨u, pt, conj c, conj (lesC c), -1, -1, rfl, LedAt.same hu s1, conj_bw wc, e1, Bw.one.neg, Bw.one.neg, ?_, ?_, ?_, ?_, fun u' H' s h => q u' H' (s1.trans s) (l9 h rfl)⟩ <;> (simp only [conj, lesC]; omega)
      | false =>
        walk_at "W"
        refine ⟨_, rfl, ?_⟩
        walk_at "W"
        refine k_tup rfl fun pt H1 hpt s1 e1 => ?_
        walk_at "W"
        refine ⟨u, pt, c, lesC c, -1, 1, rfl, LedAt.same hu s1, wc, e1, Bw.one.neg, Bw.one, ?_, ?_, ?_, ?_, fun u' H' s h => q u' H' (s1.trans s) (l9 h rfl)⟩ <;> (simp only [lesC]; omega)
    | step d =>
      have hd : H ud = some (.tup [.str "step", .int d]) := hd
      obtain ⟨g1, g2, g3, g4⟩ := unit_add ok.1 ok.2 c
      have wu := unit_bw ok.1 ok.2
      obtain ⟨c1, c2, hc1, w1, hq, hs⟩ : ∃ c1 c2 : C4, LedAt H u c1 1 ∧ C4.bw 170 c1 ∧ (∀ u' H', Same H H' → LedAt H' u' c2 509 → Q (.ref u') H') ∧ (c1 = (if st then conj c else c) ∧ c2 = (if st then conj (stepC c d 1) else stepC c d 1)) := by
        cases st with
        | true => exact ⟨conj c, conj (stepC c d 1), hu, conj_bw wc, q, rfl, rfl⟩
        | false => exact ⟨c, stepC c d 1, hu, wc, q, rfl, rfl⟩
      walk_at "W"
      refine w_cut (fun σ' H2 => ∃ uu e1, σ' = [some (.ref u), some (.ref ud), some (.bl st), some (.ref uu)] ∧ Same H H2 ∧ LedAt H2 uu e1 1 ∧ C4.bw 1 e1 ∧ c2.a = c1.a + e1.a ∧ c2.b = c1.b + e1.b ∧ c2.c = c1.c + e1.c ∧ c2.d = c1.d + e1.d) ?_ ?_
      · obtain ⟨rfl, rfl⟩ := hs
        cases st with
        | true =>
          walk_at "W"
          refine ⟨_, rfl, ?_⟩
          walk_at "W"
          refine ⟨d, rfl, ok.1, ok.2, fun pu H1 s1 f1 => ?_⟩
          walk_at "W"
          refine ⟨pu, _, rfl, f1, fun uu H2 s2 hu2 => ?_⟩
          walk_at "W"
          exact ⟨uu, _, rfl, s1.trans s2, hu2, conj_bw wu, g1, g4, by show -(stepC c d 1).c = -c.c + -(unitC d).c; omega, g2⟩
        | false =>
          walk_at "W"
          refine ⟨_, rfl, ?_⟩
          walk_at "W"
          refine ⟨d, rfl, ok.1, ok.2, fun pu H1 s1 f1 => ?_⟩
          walk_at "W"
          refine ⟨pu, _, rfl, f1, fun uu H2 s2 hu2 => ?_⟩
          walk_at "W"
          exact ⟨uu, _, rfl, s1.trans s2, hu2, wu, g1, g2, g3, g4⟩
      rintro σ' H2 ⟨uu, e1, rfl, s2, ⟨r, r', sc, sd, hr, k1, k2, nc, nd, wsc, wsd⟩, we, g1, g2, g3, g4⟩
      obtain ⟨p, p', sa, sb, hu, h1, h2, na, nb', wa, wb⟩ := hc1
      obtain ⟨b1, -⟩ := led_b3 w1 wa (by omega)
      obtain ⟨-, b2⟩ := led_b3 w1 wb (by omega)
      obtain ⟨d1, -⟩ := led_b3 we wsc (by omega)
      obtain ⟨-, d2⟩ := led_b3 we wsd (by omega)
      have hu2 := s2 _ _ hu
      walk_at "W"
      refine ⟨p, r, _, _, _, _, _, _, rfl, s2 _ _ h1, k1, b1, d1, fun u3 H3 f3 s3 e3 => ?_⟩
      have hu3 := s3 _ _ hu2
      have hr3 := s3 _ _ hr
      walk_at "W"
      refine ⟨p', r', _, _, _, _, _, _, rfl, s3 _ _ (s2 _ _ h2), s3 _ _ k2, b2, d2, fun u4 H4 f4 s4 e4 => ?_⟩
      walk_at "W"
      refine k_tup rfl fun u5 H5 f5 s5 e5 => ?_
      refine hq u5 H5 (s2.trans (s3.trans (s4.trans s5))) (led_of (s := 2 * sa * sc) (s' := 2 * sb * sd) e5 (s5 _ _ (s4 _ _ e3)) (s5 _ _ e4) ?_ ?_ ?_ ?_ ?_ ?_ (Int.mul_ne_zero (Int.mul_ne_zero (by decide) na) nc) (Int.mul_ne_zero (Int.mul_ne_zero (by decide) nb') nd) (((Bw.two.mul wa).mul wsc).mono (by omega)) (((Bw.two.mul wb).mul wsd).mono (by omega)))
      · show 2 * c1.a * sa * (2 * sc) + 2 * e1.a * sc * (2 * sa) = 2 * c2.a * (2 * sa * sc)
        rw [g1]; grind
      · show (c1.b - c1.d) * sa * (2 * sc) + (e1.b - e1.d) * sc * (2 * sa) = (c2.b - c2.d) * (2 * sa * sc)
        rw [g2, g4]; grind
      · show 2 * sa * (2 * sc) = 2 * (2 * sa * sc)
        grind
      · show 2 * c1.c * sb * (2 * sd) + 2 * e1.c * sd * (2 * sb) = 2 * c2.c * (2 * sb * sd)
        rw [g3]; grind
      · show (c1.b + c1.d) * sb * (2 * sd) + (e1.b + e1.d) * sd * (2 * sb) = (c2.b + c2.d) * (2 * sb * sd)
        rw [g2, g4]; grind
      · show 2 * sb * (2 * sd) = 2 * (2 * sb * sd)
        grind
abbrev s__law_same : Stmt := top 36
theorem sc__law_same : FnScope ["one", "other", "x", "y", "rest"] ["one", "other"] (defScope s__law_same) := ⟨rfl, rfl, rfl, by decide +kernel, rfl, by decide +kernel, by decide +kernel⟩

def sp__law_same (Z : Zs) : Sp := fun vs H Q E =>
  ∃ u v c, vs = [.ref u, .ref v] ∧ LedAt H u c 1 ∧ LedAt H v c 509 ∧ C4.bw 172 c ∧ ∀ H', Same H H' → Q (.bl true) H'
theorem ok__law_same (T : Txt Z mg) (h__law_minus : Has P w Z.K mg base "_law_minus" 1 ["one", "other"] (sp__law_minus Z)) (D : AtF Z.K mg "_law_same" "_law_same" s__law_same ["one", "other"]) : Has P w Z.K mg base "_law_same" 2 ["one", "other"] (sp__law_same Z) := by
  refine D.ok sc__law_same (fun vs H Q E h => ?_) (fun cdv A outer s H vs Q E hr h => ?_)
  · obtain ⟨u, v, c, rfl, _⟩ := h
    rfl
  · refine ⟨_, (pss_cons (ps_for (passes_of rfl) rfl (RZ.pi_zipA rfl T.n_zip (pa_cons (pv 0) (pa_cons (pv 1) pa_nil))) (pg_tup rfl (pgs_cons (pg_name (i := 2) sc__law_same.nd rfl (Or.inl rfl)) (pgs_cons (pg_name (i := 3) sc__law_same.nd rfl (Or.inl rfl)) pgs_nil))) (pss_cons (ps_set (i := 4) sc__law_same.nd rfl (Or.inl rfl) (pe_h (E := ED E) h__law_minus hr (paW (takes_of rfl rfl rfl rfl)) (pa_cons (pv 2) (pa_cons (pv 3) pa_nil))))
      (pss_one (ps_if (PW.pt (pw_or (pt_cmpR op_ne (pe_ix ix_seq (pv 4) pe_int (fun _ _ => rfl)) pe_int (nomark _)) (pw_or1 (pt_cmpR op_ne (pe_ix ix_seq (pv 4) pe_int (fun _ _ => rfl)) pe_int (nomark _))))) (pss_one (ps_ret pe_bl)) pss_nil))))
      (pss_one (ps_ret pe_bl))), ?_⟩
    try simp only [cxOf]
    obtain ⟨u, v, c, rfl, ⟨p, p', sa, sb, hu, h1, h2, na, nb', wa, wb⟩, ⟨r, r', sc, sd, hv, k1, k2, nc, nd, wsc, wsd⟩, wc, q⟩ := h
    obtain ⟨b1, -⟩ := led_b3 wc wa (by omega)
    obtain ⟨-, b2⟩ := led_b3 wc wb (by omega)
    obtain ⟨d1, -⟩ := led_b3 wc wsc (by omega)
    obtain ⟨-, d2⟩ := led_b3 wc wsd (by omega)
    walk_at "W"
    refine k_forZT (fun _ σ' H' => Same H H' ∧ ∃ x y z, σ' = [some (.ref u), some (.ref v), x, y, z]) hu hv rfl ⟨Same.refl _, none, none, none, rfl⟩ (fun _ _ H' h => ⟨SqT.of (h.1 _ _ hu), SqT.of (h.1 _ _ hv)⟩) ?_ ?_
    · rintro i x y σ' H2 T0 H3 hx hy ⟨s2, x0, y0, z0, rfl⟩ hT s3 eT
      have S := s2.trans s3
      obtain ⟨p0, r0, t, rr, b, t', rr', b', rfl, rfl, z1, z2, w1, w2, q1, q2⟩ : ∃ p0 r0 t rr b t' rr' b', x = V.ref p0 ∧ y = V.ref r0 ∧ T3 H3 p0 t rr b ∧ T3 H3 r0 t' rr' b' ∧ B3 t rr b ∧ B3 t' rr' b' ∧ t * b' - t' * b = 0 ∧ rr * b' - rr' * b = 0 := by
        rcases i with _ | _ | i
        · cases hx; cases hy
          exact ⟨p, r, _, _, _, _, _, _, rfl, rfl, S _ _ h1, S _ _ k1, b1, d1, by grind, by grind⟩
        · cases hx; cases hy
          exact ⟨p', r', _, _, _, _, _, _, rfl, rfl, S _ _ h2, S _ _ k2, b2, d2, by grind, by grind⟩
        · simp at hx
      refine k_tupl2 eT rfl rfl ?_
      walk_at "W"
      refine ⟨p0, r0, _, _, _, _, _, _, rfl, z1, z2, w1, w2, fun u4 H4 f4 s4 e4 => ?_⟩
      have e4 : H4 u4 = some (.tup [.int (t * b' - t' * b), .int (rr * b' - rr' * b), .int (b * b')]) := e4
      rw [q1, q2] at e4
      walk_at "W"
      exact ⟨S.trans s4, _, _, _, rfl⟩
    · rintro σ' H2 ⟨s2, x, y, z, rfl⟩
      walk_at "W"
      exact q H2 s2
abbrev s__law_refusals : Stmt := top 37
theorem sc__law_refusals : FnScope ["corner", "eighths", "found", "e"] ["corner", "eighths"] (defScope s__law_refusals) := ⟨rfl, rfl, rfl, by decide +kernel, rfl, by decide +kernel, by decide +kernel⟩

def sp__law_refusals (Z : Zs) : Sp := fun vs H Q E =>
  ∃ v e, vs = [v, .int e] ∧ BadCor Z H v ∧ ∀ u H', Same H H' → H' u = some (.lst [v, v, v, v]) → Q (.ref u) H'
theorem ok__law_refusals (T : Txt Z mg) (h_lesser : Has P w Z.K mg base "lesser" 4 ["corner"] (sp_lesser Z)) (h_greater : Has P w Z.K mg base "greater" 4 ["corner"] (sp_greater Z)) (h_mirrored : Has P w Z.K mg base "mirrored" 4 ["corner"] (sp_mirrored Z)) (h_turned : Has P w Z.K mg base "turned" 4 ["corner", "eighths"] (sp_turned Z)) (D : AtF Z.K mg "_law_refusals" "_law_refusals" s__law_refusals ["corner", "eighths"]) : Has P w Z.K mg base "_law_refusals" 5 ["corner", "eighths"] (sp__law_refusals Z) := by
  refine D.ok sc__law_refusals (fun vs H Q E h => ?_) (fun cdv A outer s H vs Q E hr h => ?_)
  · obtain ⟨v, e, rfl, _⟩ := h
    rfl
  · refine ⟨_, (pss_cons (ps_set (i := 2) sc__law_refusals.nd rfl (Or.inl rfl) (pe_lst pa_nil))
      (pss_cons (ps_try_as (i := 3) (tb := fun W => tDrop (tCallS (sp_turned Z) (WE W) (tCons (tVar 0) (tCons (tVar 1) tNil)))) rfl rfl sc__law_refusals.nd rfl rfl ⟨rfl, by decide, Or.inl T.g_BadCorner⟩ takes0 (fun W pn xe tk po => (pss_one (ps_expr (pe_h (E := WE W) h_turned hr (paW tk) (pa_cons (pv 0) (pa_cons (pv 1) pa_nil)))))) (fun a oe cls d pn hz hf => (pss_one (ps_expr (pe_bmZ (K := Z.K) rfl PySem.F.plainAttrs_list PySem.F.slot_list_append PySem.F.type_list_append mt_append (pv 2) (pa_cons (pe_xf T.xf_BadCorner T.xn_BadCorner hz hf (pv 3)) pa_nil))))))
      (pss_cons (ps_try_as (i := 3) (tb := fun W => tDrop (tCallS (sp_mirrored Z) (WE W) (tCons (tVar 0) tNil))) rfl rfl sc__law_refusals.nd rfl rfl ⟨rfl, by decide, Or.inl T.g_BadCorner⟩ takes0 (fun W pn xe tk po => (pss_one (ps_expr (pe_h (E := WE W) h_mirrored hr (paW tk) (pa_cons (pv 0) pa_nil))))) (fun a oe cls d pn hz hf => (pss_one (ps_expr (pe_bmZ (K := Z.K) rfl PySem.F.plainAttrs_list PySem.F.slot_list_append PySem.F.type_list_append mt_append (pv 2) (pa_cons (pe_xf T.xf_BadCorner T.xn_BadCorner hz hf (pv 3)) pa_nil))))))
      (pss_cons (ps_try_as (i := 3) (tb := fun W => tDrop (tCallS (sp_greater Z) (WE W) (tCons (tVar 0) tNil))) rfl rfl sc__law_refusals.nd rfl rfl ⟨rfl, by decide, Or.inl T.g_BadCorner⟩ takes0 (fun W pn xe tk po => (pss_one (ps_expr (pe_h (E := WE W) h_greater hr (paW tk) (pa_cons (pv 0) pa_nil))))) (fun a oe cls d pn hz hf => (pss_one (ps_expr (pe_bmZ (K := Z.K) rfl PySem.F.plainAttrs_list PySem.F.slot_list_append PySem.F.type_list_append mt_append (pv 2) (pa_cons (pe_xf T.xf_BadCorner T.xn_BadCorner hz hf (pv 3)) pa_nil))))))
      (pss_cons (ps_try_as (i := 3) (tb := fun W => tDrop (tCallS (sp_lesser Z) (WE W) (tCons (tVar 0) tNil))) rfl rfl sc__law_refusals.nd rfl rfl ⟨rfl, by decide, Or.inl T.g_BadCorner⟩ takes0 (fun W pn xe tk po => (pss_one (ps_expr (pe_h (E := WE W) h_lesser hr (paW tk) (pa_cons (pv 0) pa_nil))))) (fun a oe cls d pn hz hf => (pss_one (ps_expr (pe_bmZ (K := Z.K) rfl PySem.F.plainAttrs_list PySem.F.slot_list_append PySem.F.type_list_append mt_append (pv 2) (pa_cons (pe_xf T.xf_BadCorner T.xn_BadCorner hz hf (pv 3)) pa_nil))))))
      (pss_one (ps_ret (pv 2)))))))), ?_⟩
    try simp only [cxOf]
    obtain ⟨v, e, rfl, bad, q⟩ := h
    walk_at "W"
    refine k_lst rfl fun l H1 hl s1 e1 => ?_
    walk_at "W"
    refine ⟨_, _, rfl, .inr ⟨bad.same s1, fun d H2 hd s2 e2 => ⟨true, T.xm_BadCorner, fun _ a0 ha0 => ?_, fun z => by cases z⟩⟩⟩
    have g1 := s2 _ _ e1
    walk_at "W"
    refine k_bm g1 ?_
    walk_at "W"
    refine k_xf e2 ?_
    walk_at "W"
    refine w_append g1 (by decide) fun H3 s3 e3 => ?_
    have S3 : Same H H3 := fun b o eb => s3 b o (ne_of_none eb hl) (s2 _ _ (s1 _ _ eb))
    walk_at "W"
    refine ⟨_, rfl, .inr ⟨bad.same S3, fun d H4 hd s4 e4 => ⟨true, T.xm_BadCorner, fun _ a0 ha0 => ?_, fun z => by cases z⟩⟩⟩
    have g3 := s4 _ _ e3
    walk_at "W"
    refine k_bm g3 ?_
    walk_at "W"
    refine k_xf e4 ?_
    walk_at "W"
    refine w_append g3 (by simp) fun H5 s5 e5 => ?_
    have S5 : Same H H5 := fun b o eb => s5 b o (ne_of_none eb hl) (s4 _ _ (S3 _ _ eb))
    walk_at "W"
    refine ⟨_, rfl, .inr ⟨bad.same S5, fun d H6 hd s6 e6 => ⟨true, T.xm_BadCorner, fun _ a0 ha0 => ?_, fun z => by cases z⟩⟩⟩
    have g5 := s6 _ _ e5
    walk_at "W"
    refine k_bm g5 ?_
    walk_at "W"
    refine k_xf e6 ?_
    walk_at "W"
    refine w_append g5 (by simp) fun H7 s7 e7 => ?_
    have S7 : Same H H7 := fun b o eb => s7 b o (ne_of_none eb hl) (s6 _ _ (S5 _ _ eb))
    walk_at "W"
    refine ⟨_, rfl, .inr ⟨bad.same S7, fun d H8 hd s8 e8 => ⟨true, T.xm_BadCorner, fun _ a0 ha0 => ?_, fun z => by cases z⟩⟩⟩
    have g7 := s8 _ _ e7
    walk_at "W"
    refine k_bm g7 ?_
    walk_at "W"
    refine k_xf e8 ?_
    walk_at "W"
    refine w_append g7 (by simp) fun H9 s9 e9 => ?_
    have S9 : Same H H9 := fun b o eb => s9 b o (ne_of_none eb hl) (s8 _ _ (S7 _ _ eb))
    walk_at "W"
    exact q l H9 S9 e9
/-- the corner behind the first deeds -/
def runD (c : C4) (ds : List Dd) : C4 := ds.foldl (fun c d => doD d c) c
theorem run_bw : ∀ (ds : List Dd) {n : Nat} {c : C4}, 1 ≤ n → C4.bw n c → (∀ d ∈ ds, d.ok) → C4.bw (n + 2 * ds.length) (runD c ds)
  | [], _, _, _, h, _ => h
  | d :: ds, n, c, l, h, ok => by
    have h1 := run_bw ds (n := n + 2) (by omega) (do_bw (ok d (by simp)) h l) (fun x hx => ok x (List.mem_cons_of_mem _ hx))
    have e : n + 2 + 2 * ds.length = n + 2 * (d :: ds).length := by rw [List.length_cons]; omega
    rw [e] at h1
    exact h1
theorem C4.bw.mono {m n : Nat} {c : C4} (h : C4.bw m c) (l : m ≤ n) : C4.bw n c := ⟨h.1.mono l, h.2.1.mono l, h.2.2.1.mono l, h.2.2.2.mono l⟩
/-- the law's way and its deeds: corners and deeds told by rows -/
structure WayAt (H : Hp) (pw pd : Addr) (c : C4) (ds : List Dd) : Prop where
  ok : ∀ d ∈ ds, d.ok
  way : ∃ ws : List V, H pw = some (.lst ws) ∧ ws.length = ds.length + 1 ∧ ∀ (i : Nat), i ≤ ds.length → ∃ v, ws[i]? = some v ∧ CorAt H v (runD c (ds.take i))
  deeds : ∃ us : List V, H pd = some (.lst us) ∧ us.length = ds.length ∧ ∀ (i : Nat) (d : Dd), ds[i]? = some d → ∃ u, us[i]? = some (.ref u) ∧ DeedAt H u d
theorem way_push {H H' : Hp} {pw pd ud : Addr} {c : C4} {ds : List Dd} {d : Dd} {ws us : List V} {v : V} (K : Kps H H') (ok : ∀ d ∈ ds, d.ok) (okd : d.ok) (lw : ws.length = ds.length + 1) (fw : ∀ (i : Nat), i ≤ ds.length → ∃ v, ws[i]? = some v ∧ CorAt H v (runD c (ds.take i)))
    (lu : us.length = ds.length) (fu : ∀ (i : Nat) (d : Dd), ds[i]? = some d → ∃ u, us[i]? = some (.ref u) ∧ DeedAt H u d) (hw : H' pw = some (.lst (ws ++ [v]))) (hd : H' pd = some (.lst (us ++ [.ref ud]))) (cv : CorAt H' v (doD d (runD c ds))) (dd : DeedAt H' ud d) : WayAt H' pw pd c (ds ++ [d]) := by
  refine ⟨fun x hx => ?_, ⟨_, hw, by simp [lw], fun i hi => ?_⟩, ⟨_, hd, by simp [lu], fun i e he => ?_⟩⟩
  · rcases List.mem_append.mp hx with h | h
    · exact ok x h
    · obtain rfl : x = d := by simpa using h
      exact okd
  · rw [List.length_append] at hi
    have hi : i ≤ ds.length + 1 := hi
    rcases Nat.lt_or_ge ds.length i with h | h
    · obtain rfl : i = ds.length + 1 := by omega
      refine ⟨v, by rw [List.getElem?_append_right (by omega), lw, Nat.sub_self]; rfl, ?_⟩
      rw [List.take_of_length_le (by simp)]
      unfold runD
      rw [List.foldl_append]
      exact cv
    · obtain ⟨x, hx, cx⟩ := fw i h
      refine ⟨x, by rw [List.getElem?_append_left (by omega)]; exact hx, ?_⟩
      rw [List.take_append_of_le_length h]
      exact cx.kps K
  · rcases Nat.lt_or_ge i ds.length with h | h
    · rw [List.getElem?_append_left h] at he
      obtain ⟨u, hu, du⟩ := fu i e he
      exact ⟨u, by rw [List.getElem?_append_left (by omega)]; exact hu, K.tup du⟩
    · rw [List.getElem?_append_right h] at he
      have h0 : i - ds.length = 0 := by
        rcases Nat.eq_zero_or_pos (i - ds.length) with z | z
        · exact z
        · rw [List.getElem?_eq_none (by simp; omega)] at he; cases he
      rw [h0] at he
      obtain rfl : d = e := by simpa using he
      refine ⟨ud, ?_, dd⟩
      rw [List.getElem?_append_right (by omega), lu, h0]
      rfl
theorem undo_ok {d : Dd} (h : d.ok) : (undoD d).ok := by
  cases d with
  | turn e => exact Bw.neg h
  | step d => show 0 ≤ (d + 4) % 8 ∧ (d + 4) % 8 ≤ 7; omega
  | _ => trivial
theorem w_neSame {K : PySem.W.Frag} {H : Hp} {Q : VK} {x y : V} {c : C4} (h1 : CorAt H x c) (h2 : CorAt H y c) (q : Q (.bl false) H) : rNeD K x y H Q := by
  obtain ⟨p, rfl, e1⟩ := h1
  obtain ⟨p', rfl, e2⟩ := h2
  refine ⟨.tuple [.int c.a, .int c.b, .int c.c, .int c.d], .tuple [.int c.a, .int c.b, .int c.c, .int c.d], .tup (SqT.of e1) (.cons (.int _) (.cons (.int _) (.cons (.int _) (.cons (.int _) .nil)))), .tup (SqT.of e2) (.cons (.int _) (.cons (.int _) (.cons (.int _) (.cons (.int _) .nil)))), rfl, rfl, ?_⟩
  rw [SeqAt.eqv_refl _ rfl]
  exact q
theorem at_neg1 {xs : List V} {n : Nat} {v : V} (h : xs.length = n + 1) (e : xs[n]? = some v) : atI xs (-1) = some v := by
  have : ixN xs.length (-1) = some n := by
    rw [h]
    unfold ixN
    simp
    omega
  unfold atI
  rw [this]
  exact e
abbrev s_law : Stmt := top 38
theorem sc_law : FnScope ["script", "state", "spoil", "many", "corner", "bad", "way", "deeds", "k", "deed", "later", "last"] ["script"] (defScope s_law) := ⟨rfl, rfl, rfl, by decide +kernel, rfl, by decide +kernel, by decide +kernel⟩

def sp_law (Z : Zs) : Sp := fun vs H Q E =>
  ∃ (a : Addr) (ns : List Int), vs = [.ref a] ∧ SqL Z.K H a (ns.map V.int) ∧ ∀ H', Q (.bl true) H'
theorem ok_law (T : Txt Z mg) (h__law_done : Has P w Z.K mg base "_law_done" 5 ["corner", "deed"] (sp__law_done Z)) (h__law_undone : Has P w Z.K mg base "_law_undone" 1 ["deed"] (sp__law_undone Z)) (h__law_same : Has P w Z.K mg base "_law_same" 2 ["one", "other"] (sp__law_same Z)) (h__law_led : Has P w Z.K mg base "_law_led" 3 ["point", "deed", "is_star"] (sp__law_led Z)) (h__law_star : Has P w Z.K mg base "_law_star" 1 ["corner"] (sp__law_star Z)) (h__law_place : Has P w Z.K mg base "_law_place" 1 ["corner"] (sp__law_place Z)) (h__law_is_corner : Has P w Z.K mg base "_law_is_corner" 1 ["thing"] (sp__law_is_corner Z)) (h__law_deed : Has P w Z.K mg base "_law_deed" 4 ["state"] (sp__law_deed Z)) (h__law_refusals : Has P w Z.K mg base "_law_refusals" 5 ["corner", "eighths"] (sp__law_refusals Z)) (h__law_bad_corner : Has P w Z.K mg base "_law_bad_corner" 3 ["state", "corner"] (sp__law_bad_corner Z)) (h__law_corner : Has P w Z.K mg base "_law_corner" 4 ["state"] (sp__law_corner Z)) (h__law_draw : Has P w Z.K mg base "_law_draw" 2 ["state", "many"] (sp__law_draw Z)) (h__law_start : Has P w Z.K mg base "_law_start" 1 ["script"] (sp__law_start Z)) {f : Addr} {fd : FuncData} (D : Fun Z.K "law" "law" s_law f fd) : FnOk P w Z.K mg base (L2.CX P w) 6 f fd ["script"] (sp_law Z) := by
  refine D.okX sc_law (fun vs H Q E h => ?_) (fun cdv A outer s H vs Q E hr h => ?_)
  · obtain ⟨a, ns, rfl, _⟩ := h
    rfl
  · refine ⟨_, (pss_cons (ps_set (i := 1) sc_law.nd rfl (Or.inl rfl) (pe_h (E := ED E) h__law_start hr (paW (takes_of rfl rfl rfl rfl)) (pa_cons (pv 0) pa_nil)))
      (pss_cons (ps_set (i := 2) sc_law.nd rfl (Or.inl rfl) (pe_h (E := ED E) h__law_draw hr (paW (takes_of rfl rfl rfl rfl)) (pa_cons (pv 1) (pa_cons pe_int pa_nil))))
      (pss_cons (ps_set (i := 3) sc_law.nd rfl (Or.inl rfl) (pe_h (E := ED E) h__law_draw hr (paW (takes_of rfl rfl rfl rfl)) (pa_cons (pv 1) (pa_cons pe_int pa_nil))))
      (pss_cons (ps_set (i := 4) sc_law.nd rfl (Or.inl rfl) (pe_h (E := ED E) h__law_corner hr (paW (takes_of rfl rfl rfl rfl)) (pa_cons (pv 1) pa_nil)))
      (C8.pss_cut (ps_if (pt_cmpR op_eq (pv 2) pe_int (nomark _)) (pss_cons (ps_set (i := 5) sc_law.nd rfl (Or.inl rfl) (pe_h (E := ED E) h__law_bad_corner hr (paW (takes_of rfl rfl rfl rfl)) (pa_cons (pv 1) (pa_cons (pv 4) pa_nil))))
      (pss_one (ps_if (pt_cmpR (op_neD hr.units) (pe_h (E := ED E) h__law_refusals hr (paW (takes_of rfl rfl rfl rfl)) (pa_cons (pv 5) (pa_cons (pv 3) pa_nil))) (pe_op op_rep (pe_lst (pa_cons (pv 5) pa_nil)) pe_int) (nomark _)) (pss_one (ps_ret pe_bl)) pss_nil))) pss_nil)
      (pss_cons (ps_set (i := 6) sc_law.nd rfl (Or.inl rfl) (pe_lst (pa_cons (pv 4) pa_nil)))
      (pss_cons (ps_set (i := 7) sc_law.nd rfl (Or.inl rfl) (pe_lst pa_nil))
      (pss_cons (ps_for (passes_of rfl) rfl (pi_range1 rfl T.n_range (pa_cons (pv 3) pa_nil)) (pg_name (i := 8) sc_law.nd rfl (Or.inl rfl)) (pss_cons (ps_set (i := 9) sc_law.nd rfl (Or.inl rfl) (pe_h (E := ED E) h__law_deed hr (paW (takes_of rfl rfl rfl rfl)) (pa_cons (pv 1) pa_nil)))
      (pss_cons (ps_set (i := 10) sc_law.nd rfl (Or.inl rfl) (pe_h (E := ED E) h__law_done hr (paW (takes_of rfl rfl rfl rfl)) (pa_cons (pe_ix ix_seq (pv 6) (pe_un un_neg pe_int) (fun _ _ => rfl)) (pa_cons (pv 9) pa_nil))))
      (pss_cons (ps_if (pt_not (pt_val (pe_h (E := ED E) h__law_is_corner hr (paW (takes_of rfl rfl rfl rfl)) (pa_cons (pv 10) pa_nil)))) (pss_one (ps_ret pe_bl)) pss_nil)
      (pss_cons (ps_if (pt_not (pt_val (pe_h (E := ED E) h__law_same hr (paW (takes_of rfl rfl rfl rfl)) (pa_cons (pe_h (E := ED E) h__law_place hr (paW (takes_of rfl rfl rfl rfl)) (pa_cons (pv 10) pa_nil)) (pa_cons (pe_h (E := ED E) h__law_led hr (paW (takes_of rfl rfl rfl rfl)) (pa_cons (pe_h (E := ED E) h__law_place hr (paW (takes_of rfl rfl rfl rfl)) (pa_cons (pe_ix ix_seq (pv 6) (pe_un un_neg pe_int) (fun _ _ => rfl)) pa_nil)) (pa_cons (pv 9) (pa_cons pe_bl pa_nil)))) pa_nil))))) (pss_one (ps_ret pe_bl)) pss_nil)
      (pss_cons (ps_if (pt_not (pt_val (pe_h (E := ED E) h__law_same hr (paW (takes_of rfl rfl rfl rfl)) (pa_cons (pe_h (E := ED E) h__law_star hr (paW (takes_of rfl rfl rfl rfl)) (pa_cons (pv 10) pa_nil)) (pa_cons (pe_h (E := ED E) h__law_led hr (paW (takes_of rfl rfl rfl rfl)) (pa_cons (pe_h (E := ED E) h__law_star hr (paW (takes_of rfl rfl rfl rfl)) (pa_cons (pe_ix ix_seq (pv 6) (pe_un un_neg pe_int) (fun _ _ => rfl)) pa_nil)) (pa_cons (pv 9) (pa_cons pe_bl pa_nil)))) pa_nil))))) (pss_one (ps_ret pe_bl)) pss_nil)
      (pss_cons (ps_expr (pe_bm PySem.F.plainAttrs_list PySem.F.slot_list_append PySem.F.type_list_append mt_append (pv 6) (pa_cons (pv 10) pa_nil)))
      (pss_one (ps_expr (pe_bm PySem.F.plainAttrs_list PySem.F.slot_list_append PySem.F.type_list_append mt_append (pv 7) (pa_cons (pv 9) pa_nil)))))))))))
      (pss_cons (ps_set (i := 11) sc_law.nd rfl (Or.inl rfl) (pe_ix ix_seq (pv 6) (pe_un un_neg pe_int) (fun _ _ => rfl)))
      (pss_cons (ps_for (passes_of rfl) rfl (pi_range1 rfl T.n_range (pa_cons (pv 3) pa_nil)) (pg_name (i := 8) sc_law.nd rfl (Or.inl rfl)) (pss_cons (ps_set (i := 11) sc_law.nd rfl (Or.inl rfl) (pe_h (E := ED E) h__law_done hr (paW (takes_of rfl rfl rfl rfl)) (pa_cons (pv 11) (pa_cons (pe_h (E := ED E) h__law_undone hr (paW (takes_of rfl rfl rfl rfl)) (pa_cons (pe_ix ix_seq (pv 7) (pe_op op_sub (pe_op op_sub (pv 3) pe_int) (pv 8)) (fun _ _ => rfl)) pa_nil)) pa_nil))))
      (pss_one (ps_if (pt_cmpR (op_neD hr.units) (pv 11) (pe_ix ix_seq (pv 6) (pe_op op_sub (pe_op op_sub (pv 3) pe_int) (pv 8)) (fun _ _ => rfl)) (nomark _)) (pss_one (ps_ret pe_bl)) pss_nil))))
      (pss_one (ps_ret pe_bl)))))))))))), ?_⟩
    try simp only [cxOf]
    obtain ⟨a, ns, rfl, hs, q⟩ := h
    walk_at "W"
    refine ⟨a, ns, rfl, hs, fun st sc H1 hst s1 hst1 => ?_⟩
    walk_at "W"
    refine k_draw' hst1 (by decide) (by decide) fun sp H2 n0 n1 x2 hst2 => ?_
    walk_at "W"
    refine k_draw' hst2 (by decide) (by decide) fun many H3 m0 m1 x3 hst3 => ?_
    walk_at "W"
    refine ⟨st, sc, rfl, hst3, fun pc c H4 x4 hst4 hc wc => ?_⟩
    walk_at "W"
    refine w_cut (fun σ' H' => ∃ x, σ' = [some (.ref a), some (.ref st), some (.int sp), some (.int many), some (.ref pc), x, none, none, none, none, none, none] ∧ StA H' st sc ∧ H' pc = some (.tup [.int c.a, .int c.b, .int c.c, .int c.d])) ?_ ?_
    · walk_at "W"
      refine w_ite (fun _ => ?_) (fun _ => ?_)
      · walk_at "W"
        refine ⟨st, sc, pc, c, rfl, hst4, hc, fun v d H5 x5 hst5 od => ?_⟩
        have hc := x5 _ _ (hst4.ne hc (by intro xs z; cases z)) hc
        walk_at "W"
        refine ⟨v, many, rfl, od.bad, fun u H6 s6 e6 => ?_⟩
        walk_at "W"
        refine k_lst rfl fun l H7 hl s7 e7 => ?_
        walk_at "W"
        refine w_rep e7 (by decide) (by decide) rfl fun l2 H8 hl2 s8 e8 => ?_
        have e8 : H8 l2 = some (.lst [v, v, v, v]) := e8
        have e6 := s8 _ _ (s7 _ _ e6)
        have dv := dp_same (s6.trans (s7.trans s8)) od.dp
        have da : DpAll Z.K H8 [v, v, v, v] [d, d, d, d] := .cons dv (.cons dv (.cons dv (.cons dv .nil)))
        have ly : PyData.canLay0 (.list [d, d, d, d]) = true := by simp only [PyData.canLay0, PyData.canLayAll0, od.lay, Bool.and_self]
        have sh : SeqAt.shaped (.list [d, d, d, d]) = true := by
          unfold SeqAt.shaped
          rw [ly, Bool.true_and]
          have := od.dep
          simp only [PyData.depth, PyData.depthAll]
          exact decide_eq_true (by omega)
        refine ⟨.list [d, d, d, d], .list [d, d, d, d], .lst (SqL.of e6) da, .lst (SqL.of e8) da, sh, sh, ?_⟩
        rw [SeqAt.eqv_refl _ ly]
        walk_at "W"
        exact ⟨_, rfl, ((hst5.same s6).same s7).same s8, s8 _ _ (s7 _ _ (s6 _ _ hc))⟩
      · walk_at "W"
        exact ⟨none, rfl, hst4, hc⟩
    rintro σ' H5 ⟨x, rfl, hst5, hc⟩
    walk_at "W"
    refine k_lst rfl fun pw H6 hpw s6 e6 => ?_
    walk_at "W"
    refine k_lst rfl fun pd H7 hpd s7 e7 => ?_
    have hst6 := hst5.same s6
    have hst7 := hst6.same s7
    have nw := hst5.new hpw
    have nd := hst6.new hpd
    have nwd : pw ≠ pd := fun z => by rw [← z, e6] at hpd; cases hpd
    walk_at "W"
    refine k_forR (fun i σ' H' => ∃ ds y1 y2 y3, ds.length = i ∧ σ' = [some (.ref a), some (.ref st), some (.int sp), some (.int many), some (.ref pc), x, some (.ref pw), some (.ref pd), y1, y2, y3, none] ∧ StA H' st sc ∧ WayAt H' pw pd c ds) (by omega) (by omega) ?_ ?_ ?_
    · refine ⟨[], none, none, none, rfl, rfl, hst7, fun _ h => (nomatch h), ⟨[.ref pc], s7 _ _ e6, rfl, fun i hi => ?_⟩, ⟨[], e7, rfl, fun i d h => by simp at h⟩⟩
      obtain rfl : i = 0 := by simpa using hi
      exact ⟨.ref pc, rfl, pc, rfl, s7 _ _ (s6 _ _ hc)⟩
    · rintro i σ' H8 hi ⟨ds, y1, y2, y3, hl, rfl, hst8, ⟨ok, ⟨ws, ew, lw, fw⟩, ⟨us, eu, lu, fu⟩⟩⟩
      obtain ⟨v, hv, pv, rfl, hpv⟩ := fw ds.length (Nat.le_refl _)
      rw [List.take_length] at hpv
      have hlast : atI ws (-1) = some (.ref pv) := at_neg1 lw hv
      have wr := run_bw ds (by omega) wc ok
      have wr0 : C4.bw 170 (runD c ds) := wr.mono (by omega)
      walk_at "W"
      refine ⟨st, sc, rfl, hst8, fun ud d H9 x9 hst9 hd okd => ?_⟩
      have K9 := Kps.st hst8 x9
      have wr1 : C4.bw 172 (doD d (runD c ds)) := (do_bw okd wr (by omega)).mono (by omega)
      have ew := x9 _ _ nw.1 ew
      have eu := x9 _ _ nd.1 eu
      have hpv := K9.tup hpv
      walk_at "W"
      refine w_ixL ew hlast ?_
      walk_at "W"
      refine ⟨_, _, ud, d, rfl, ⟨pv, rfl, hpv⟩, hd, okd, fun v' H10 s10 hc' => ?_⟩
      obtain ⟨pl, rfl, hpl⟩ := hc'
      have ew := s10 _ _ ew
      have eu := s10 _ _ eu
      have hpv := s10 _ _ hpv
      have hd : DeedAt H10 ud d := s10 _ _ hd
      walk_at "W"
      refine ⟨_, _, rfl, ⟨pl, rfl, hpl⟩, ?_⟩
      walk_at "W"
      refine ⟨pl, _, rfl, .inr hpl, fun u1 H11 s11 hu1 => ?_⟩
      walk_at "W"
      refine w_ixL (s11 _ _ ew) hlast ?_
      walk_at "W"
      refine ⟨pv, _, rfl, .inr (s11 _ _ hpv), fun u2 H12 s12 hu2 => ?_⟩
      walk_at "W"
      refine ⟨u2, ud, _, d, false, rfl, hu2, wr0, (s12 _ _ (s11 _ _ hd)), okd, fun u3 H13 s13 hu3 => ?_⟩
      walk_at "W"
      refine ⟨u1, u3, _, rfl, (hu1.same s12).same s13, hu3, wr1, fun H14 s14 => ?_⟩
      have S14 : Same H10 H14 := s11.trans (s12.trans (s13.trans s14))
      walk_at "W"
      refine ⟨pl, _, rfl, .inr (S14 _ _ hpl), fun u4 H15 s15 hu4 => ?_⟩
      have S15 := S14.trans s15
      walk_at "W"
      refine w_ixL (S15 _ _ ew) hlast ?_
      walk_at "W"
      refine ⟨pv, _, rfl, .inr (S15 _ _ hpv), fun u5 H16 s16 hu5 => ?_⟩
      walk_at "W"
      refine ⟨u5, ud, _, d, true, rfl, hu5, wr0, (s16 _ _ (S15 _ _ hd)), okd, fun u6 H17 s17 hu6 => ?_⟩
      walk_at "W"
      refine ⟨u4, u6, _, rfl, (hu4.same s16).same s17, hu6, conj_bw wr1, fun H18 s18 => ?_⟩
      have S18 : Same H10 H18 := S15.trans (s16.trans (s17.trans s18))
      walk_at "W"
      have ew := S18 _ _ ew
      have eu := S18 _ _ eu
      refine k_bm ew ?_
      walk_at "W"
      refine w_append ew (by omega) fun H19 s19 ew' => ?_
      have eu' := s19 _ _ nwd.symm eu
      walk_at "W"
      refine k_bm eu' ?_
      walk_at "W"
      refine w_append eu' (by omega) fun H20 s20 eu'' => ?_
      have ew'' := s20 _ _ nwd ew'
      walk_at "W"
      have K19 := Kps.sx ew s19
      have K20 := Kps.sx eu' s20
      have KK : Kps H10 H20 := (Kps.same S18).trans (K19.trans K20)
      have K8 : Kps H8 H20 := K9.trans ((Kps.same s10).trans KK)
      have st20 : StA H20 st sc := (((hst9.same s10).same S18).otherX ⟨nw.1, nw.2⟩ s19).otherX ⟨nd.1, nd.2⟩ s20
      exact ⟨ds ++ [d], _, _, _, by simp [hl], rfl, st20, way_push K8 ok okd lw fw lu fu ew'' eu'' ⟨pl, rfl, KK.tup hpl⟩ (KK.tup hd)⟩
    · rintro σ' H8 ⟨ds, y1, y2, y3, hl, rfl, hst8, ⟨ok, ⟨ws, ew, lw, fw⟩, ⟨us, eu, lu, fu⟩⟩⟩
      obtain ⟨v, hv, hcv⟩ := fw ds.length (Nat.le_refl _)
      walk_at "W"
      refine w_ixL ew (at_neg1 lw hv) ?_
      walk_at "W"
      refine k_forR (fun i σ' H' => Same H8 H' ∧ ∃ y4 lv, σ' = [some (.ref a), some (.ref st), some (.int sp), some (.int many), some (.ref pc), x, some (.ref pw), some (.ref pd), y4, y2, y3, some lv] ∧ CorAt H' lv (runD c (ds.take (ds.length - i)))) (by omega) (by omega) ⟨Same.refl _, _, v, rfl, by rw [Nat.sub_zero]; exact hcv⟩ ?_ ?_
      · rintro i σ' H9 hi ⟨s9, y4, lv, rfl, hlv⟩
        have hj : ds.length - 1 - i < ds.length := by omega
        have ej : many - 1 - (0 + (i : Int)) = ((ds.length - 1 - i : Nat) : Int) := by omega
        obtain ⟨u, hu, du⟩ := fu _ _ (List.getElem?_eq_getElem hj)
        obtain ⟨z, hz, hcz⟩ := fw (ds.length - 1 - i) (by omega)
        have okd := ok _ (List.getElem_mem hj)
        have et : ds.take (ds.length - i) = ds.take (ds.length - 1 - i) ++ [ds[ds.length - 1 - i]] := by
          rw [show ds.length - i = (ds.length - 1 - i) + 1 from by omega, List.take_add_one, List.getElem?_eq_getElem hj]
          rfl
        have er : runD c (ds.take (ds.length - i)) = doD ds[ds.length - 1 - i] (runD c (ds.take (ds.length - 1 - i))) := by
          rw [et]
          unfold runD
          rw [List.foldl_append]
          rfl
        rw [er] at hlv
        walk_at "W"
        rw [ej]
        refine w_ixL (s9 _ _ eu) (atI_nat hu) ?_
        walk_at "W"
        refine ⟨u, _, rfl, s9 _ _ du, okd, fun u' H10 s10 hd' => ?_⟩
        walk_at "W"
        refine ⟨lv, _, u', _, rfl, hlv.same s10, hd', undo_ok okd, fun v' H11 s11 hc' => ?_⟩
        rw [undo_do okd] at hc'
        have S := s9.trans (s10.trans s11)
        walk_at "W"
        rw [ej]
        refine w_ixL (S _ _ ew) (atI_nat hz) ?_
        walk_at "W"
        refine w_neSame hc' (hcz.same S) ?_
        walk_at "W"
        exact ⟨S, _, _, rfl, by rw [show ds.length - (i + 1) = ds.length - 1 - i from by omega]; exact hc'⟩
      · rintro σ' H9 ⟨s9, y4, lv, rfl, hlv⟩
        walk_at "W"
        exact q _
def spTop (K : PySem.W.Frag) : Sp := fun vs H Q E => ∃ (a : Addr) (ns : List Int), vs = [.ref a] ∧ SqL K H a (ns.map V.int) ∧ ∀ H', Q (.bl true) H'
theorem all_mk {P : Program} {w : World} {K : PySem.W.Frag} {h : Heap} {mg : Str → Option Value} {fa : Addr} (X : K.In h) (G : h.Ns mainGlobals mg) (hfa : mg "law" = some (.ref fa))
    {c_FloorError c_BadCorner c_BadDirection : Addr}
    {nmBadCorner qBadCorner : Str} {NBadCorner : Addr} {bsBadCorner : List Value} {snBadCorner : List Str} {subBadCorner : List Value} {abBadCorner : Bool} {colBadCorner : Option Bool} {ddBadCorner : Option Addr} {m0BadCorner m1BadCorner m2BadCorner m3BadCorner m5BadCorner : Option Value}
{nmBadDirection qBadDirection : Str} {NBadDirection : Addr} {bsBadDirection : List Value} {snBadDirection : List Str} {subBadDirection : List Value} {abBadDirection : Bool} {colBadDirection : Option Bool} {ddBadDirection : Option Addr} {m0BadDirection m1BadDirection m2BadDirection m3BadDirection m5BadDirection : Option Value}
    {f_is_integral : Addr} {od_is_integral an_is_integral : Option Addr} {sl_is_integral : Array (Option Value)} {oc_is_integral kV_is_integral dc_is_integral pm_is_integral cd_is_integral ct_is_integral : Value}
    {f_BadCorner_init : Addr} {od_BadCorner_init an_BadCorner_init : Option Addr} {sl_BadCorner_init : Array (Option Value)} {oc_BadCorner_init kV_BadCorner_init dc_BadCorner_init pm_BadCorner_init cd_BadCorner_init ct_BadCorner_init : Value}
    {f_BadDirection_init : Addr} {od_BadDirection_init an_BadDirection_init : Option Addr} {sl_BadDirection_init : Array (Option Value)} {oc_BadDirection_init kV_BadDirection_init dc_BadDirection_init pm_BadDirection_init cd_BadDirection_init ct_BadDirection_init : Value}
    {f__law_start : Addr} {od__law_start an__law_start : Option Addr} {sl__law_start : Array (Option Value)} {oc__law_start kV__law_start dc__law_start pm__law_start cd__law_start ct__law_start : Value}
    {f__law_mixed : Addr} {od__law_mixed an__law_mixed : Option Addr} {sl__law_mixed : Array (Option Value)} {oc__law_mixed kV__law_mixed dc__law_mixed pm__law_mixed cd__law_mixed ct__law_mixed : Value}
    {f__law_draw : Addr} {od__law_draw an__law_draw : Option Addr} {sl__law_draw : Array (Option Value)} {oc__law_draw kV__law_draw dc__law_draw pm__law_draw cd__law_draw ct__law_draw : Value}
    {f__law_between : Addr} {od__law_between an__law_between : Option Addr} {sl__law_between : Array (Option Value)} {oc__law_between kV__law_between dc__law_between pm__law_between cd__law_between ct__law_between : Value}
    {f_is_corner : Addr} {od_is_corner an_is_corner : Option Addr} {sl_is_corner : Array (Option Value)} {oc_is_corner kV_is_corner dc_is_corner pm_is_corner cd_is_corner ct_is_corner : Value}
    {f_check_corner : Addr} {od_check_corner an_check_corner : Option Addr} {sl_check_corner : Array (Option Value)} {oc_check_corner kV_check_corner dc_check_corner pm_check_corner cd_check_corner ct_check_corner : Value}
    {f_is_direction : Addr} {od_is_direction an_is_direction : Option Addr} {sl_is_direction : Array (Option Value)} {oc_is_direction kV_is_direction dc_is_direction pm_is_direction cd_is_direction ct_is_direction : Value}
    {f_step : Addr} {od_step an_step : Option Addr} {sl_step : Array (Option Value)} {oc_step kV_step dc_step pm_step cd_step ct_step : Value}
    {f_stepped : Addr} {od_stepped an_stepped : Option Addr} {sl_stepped : Array (Option Value)} {oc_stepped kV_stepped dc_stepped pm_stepped cd_stepped ct_stepped : Value}
    {f_turned : Addr} {od_turned an_turned : Option Addr} {sl_turned : Array (Option Value)} {oc_turned kV_turned dc_turned pm_turned cd_turned ct_turned : Value}
    {f_mirrored : Addr} {od_mirrored an_mirrored : Option Addr} {sl_mirrored : Array (Option Value)} {oc_mirrored kV_mirrored dc_mirrored pm_mirrored cd_mirrored ct_mirrored : Value}
    {f_greater : Addr} {od_greater an_greater : Option Addr} {sl_greater : Array (Option Value)} {oc_greater kV_greater dc_greater pm_greater cd_greater ct_greater : Value}
    {f_lesser : Addr} {od_lesser an_lesser : Option Addr} {sl_lesser : Array (Option Value)} {oc_lesser kV_lesser dc_lesser pm_lesser cd_lesser ct_lesser : Value}
    {f__law_plus : Addr} {od__law_plus an__law_plus : Option Addr} {sl__law_plus : Array (Option Value)} {oc__law_plus kV__law_plus dc__law_plus pm__law_plus cd__law_plus ct__law_plus : Value}
    {f__law_minus : Addr} {od__law_minus an__law_minus : Option Addr} {sl__law_minus : Array (Option Value)} {oc__law_minus kV__law_minus dc__law_minus pm__law_minus cd__law_minus ct__law_minus : Value}
    {f__law_times : Addr} {od__law_times an__law_times : Option Addr} {sl__law_times : Array (Option Value)} {oc__law_times kV__law_times dc__law_times pm__law_times cd__law_times ct__law_times : Value}
    {f__law_place : Addr} {od__law_place an__law_place : Option Addr} {sl__law_place : Array (Option Value)} {oc__law_place kV__law_place dc__law_place pm__law_place cd__law_place ct__law_place : Value}
    {f__law_star : Addr} {od__law_star an__law_star : Option Addr} {sl__law_star : Array (Option Value)} {oc__law_star kV__law_star dc__law_star pm__law_star cd__law_star ct__law_star : Value}
    {f__law_corner : Addr} {od__law_corner an__law_corner : Option Addr} {sl__law_corner : Array (Option Value)} {oc__law_corner kV__law_corner dc__law_corner pm__law_corner cd__law_corner ct__law_corner : Value}
    {f__law_is_corner : Addr} {od__law_is_corner an__law_is_corner : Option Addr} {sl__law_is_corner : Array (Option Value)} {oc__law_is_corner kV__law_is_corner dc__law_is_corner pm__law_is_corner cd__law_is_corner ct__law_is_corner : Value}
    {f__law_bad_corner : Addr} {od__law_bad_corner an__law_bad_corner : Option Addr} {sl__law_bad_corner : Array (Option Value)} {oc__law_bad_corner kV__law_bad_corner dc__law_bad_corner pm__law_bad_corner cd__law_bad_corner ct__law_bad_corner : Value}
    {f__law_deed : Addr} {od__law_deed an__law_deed : Option Addr} {sl__law_deed : Array (Option Value)} {oc__law_deed kV__law_deed dc__law_deed pm__law_deed cd__law_deed ct__law_deed : Value}
    {f__law_done : Addr} {od__law_done an__law_done : Option Addr} {sl__law_done : Array (Option Value)} {oc__law_done kV__law_done dc__law_done pm__law_done cd__law_done ct__law_done : Value}
    {f__law_undone : Addr} {od__law_undone an__law_undone : Option Addr} {sl__law_undone : Array (Option Value)} {oc__law_undone kV__law_undone dc__law_undone pm__law_undone cd__law_undone ct__law_undone : Value}
    {f__law_turn : Addr} {od__law_turn an__law_turn : Option Addr} {sl__law_turn : Array (Option Value)} {oc__law_turn kV__law_turn dc__law_turn pm__law_turn cd__law_turn ct__law_turn : Value}
    {f__law_scaled : Addr} {od__law_scaled an__law_scaled : Option Addr} {sl__law_scaled : Array (Option Value)} {oc__law_scaled kV__law_scaled dc__law_scaled pm__law_scaled cd__law_scaled ct__law_scaled : Value}
    {f__law_unit : Addr} {od__law_unit an__law_unit : Option Addr} {sl__law_unit : Array (Option Value)} {oc__law_unit kV__law_unit dc__law_unit pm__law_unit cd__law_unit ct__law_unit : Value}
    {f__law_led : Addr} {od__law_led an__law_led : Option Addr} {sl__law_led : Array (Option Value)} {oc__law_led kV__law_led dc__law_led pm__law_led cd__law_led ct__law_led : Value}
    {f__law_same : Addr} {od__law_same an__law_same : Option Addr} {sl__law_same : Array (Option Value)} {oc__law_same kV__law_same dc__law_same pm__law_same cd__law_same ct__law_same : Value}
    {f__law_refusals : Addr} {od__law_refusals an__law_refusals : Option Addr} {sl__law_refusals : Array (Option Value)} {oc__law_refusals kV__law_refusals dc__law_refusals pm__law_refusals cd__law_refusals ct__law_refusals : Value}
    {f_law : Addr} {od_law an_law : Option Addr} {sl_law : Array (Option Value)} {oc_law kV_law dc_law pm_law cd_law ct_law : Value}
    (r_FloorError : PySem.W.nsIn K mainGlobals "FloorError" = some (some (.ref c_FloorError)))
    (r_BadCorner : PySem.W.nsIn K mainGlobals "BadCorner" = some (some (.ref c_BadCorner)))
    (r_BadDirection : PySem.W.nsIn K mainGlobals "BadDirection" = some (some (.ref c_BadDirection)))
    (r_list : PySem.W.nsIn K mainGlobals "list" = some none)
    (r_int : PySem.W.nsIn K mainGlobals "int" = some none)
    (r_range : PySem.W.nsIn K mainGlobals "range" = some none)
    (r_len : PySem.W.nsIn K mainGlobals "len" = some none)
    (r_abs : PySem.W.nsIn K mainGlobals "abs" = some none)
    (r_all : PySem.W.nsIn K mainGlobals "all" = some none)
    (r_isinstance : PySem.W.nsIn K mainGlobals "isinstance" = some none)
    (r_tuple : PySem.W.nsIn K mainGlobals "tuple" = some none)
    (r_bool : PySem.W.nsIn K mainGlobals "bool" = some none)
    (r_zip : PySem.W.nsIn K mainGlobals "zip" = some none)
    (e_L_BadCorner : K.lookup c_BadCorner = some (excClassObj nmBadCorner qBadCorner c_BadCorner NBadCorner bsBadCorner [.ref c_FloorError, .type "ValueError", .type "Exception", .type "BaseException", .type "object"] true snBadCorner subBadCorner abBadCorner colBadCorner ddBadCorner m0BadCorner m1BadCorner m2BadCorner m3BadCorner m5BadCorner "ValueError.__new__"))
    (e_sa_BadCorner : PySem.W.findIn K (.ref c_BadCorner) "__setattr__" = some (some (.builtin "object.__setattr__")))
    (e_e_BadCorner : PySem.W.mroIn K c_BadCorner (.type "BaseException") = some true)
    (e_t_BadCorner : PySem.W.typeIn K (.ref c_BadCorner) = some (.type "type"))
    (e_k_BadCorner : PySem.W.keepIn K (.ref c_BadCorner) = true)
    (e_n_BadCorner : PySem.W.findIn K (.ref c_BadCorner) "corner" = some none)
    (e_ga_BadCorner : PySem.W.findIn K (.ref c_BadCorner) "__getattribute__" = some (some (.builtin "BaseException.__getattribute__")))
    (e_gg_BadCorner : PySem.W.findIn K (.ref c_BadCorner) "__getattr__" = some none)
    (e_hd_BadCorner : PySem.W.hasDictIn K c_BadCorner = true)
    (e_ic_BadCorner : PySem.W.isClsIn K c_BadCorner = true)
    (e_s_BadCorner : PySem.W.mroIn K c_BadCorner (.ref c_BadCorner) = some true)
    (e_L_BadDirection : K.lookup c_BadDirection = some (excClassObj nmBadDirection qBadDirection c_BadDirection NBadDirection bsBadDirection [.ref c_FloorError, .type "ValueError", .type "Exception", .type "BaseException", .type "object"] true snBadDirection subBadDirection abBadDirection colBadDirection ddBadDirection m0BadDirection m1BadDirection m2BadDirection m3BadDirection m5BadDirection "ValueError.__new__"))
    (e_sa_BadDirection : PySem.W.findIn K (.ref c_BadDirection) "__setattr__" = some (some (.builtin "object.__setattr__")))
    (e_e_BadDirection : PySem.W.mroIn K c_BadDirection (.type "BaseException") = some true)
    (e_t_BadDirection : PySem.W.typeIn K (.ref c_BadDirection) = some (.type "type"))
    (e_k_BadDirection : PySem.W.keepIn K (.ref c_BadDirection) = true)
    (e_n_BadDirection : PySem.W.findIn K (.ref c_BadDirection) "direction" = some none)
    (e_ga_BadDirection : PySem.W.findIn K (.ref c_BadDirection) "__getattribute__" = some (some (.builtin "BaseException.__getattribute__")))
    (e_gg_BadDirection : PySem.W.findIn K (.ref c_BadDirection) "__getattr__" = some none)
    (e_hd_BadDirection : PySem.W.hasDictIn K c_BadDirection = true)
    (e_ic_BadDirection : PySem.W.isClsIn K c_BadDirection = true)
    (e_s_BadDirection : PySem.W.mroIn K c_BadDirection (.ref c_BadDirection) = some true)
    (a_is_integral : PySem.W.nsIn K mainGlobals "is_integral" = some (some (.ref f_is_integral)))
    (l_is_integral : K.lookup f_is_integral = some ⟨oc_is_integral, od_is_integral, .func (PySem.W.fnOf "is_integral" "is_integral" (defArgs s_is_integral) (defBody s_is_integral) (defScope s_is_integral) .none kV_is_integral dc_is_integral pm_is_integral an_is_integral cd_is_integral ct_is_integral), sl_is_integral⟩)
    (d_is_integral : PySem.W.codeIn K cd_is_integral "is_integral" = true)
    (k_is_integral : PySem.W.keepIn K (.ref f_is_integral) = true)
    (a_BadCorner_init : PySem.W.findIn K (.ref c_BadCorner) "__init__" = some (some (.ref f_BadCorner_init)))
    (t_BadCorner_init : PySem.W.typeIn K (.ref f_BadCorner_init) = some (.type "function"))
    (l_BadCorner_init : K.lookup f_BadCorner_init = some ⟨oc_BadCorner_init, od_BadCorner_init, .func (PySem.W.fnOf "__init__" "BadCorner.__init__" (defArgs s_BadCorner_init) (defBody s_BadCorner_init) (defScope s_BadCorner_init) .none kV_BadCorner_init dc_BadCorner_init pm_BadCorner_init an_BadCorner_init cd_BadCorner_init ct_BadCorner_init), sl_BadCorner_init⟩)
    (d_BadCorner_init : PySem.W.codeIn K cd_BadCorner_init "BadCorner.__init__" = true)
    (k_BadCorner_init : PySem.W.keepIn K (.ref f_BadCorner_init) = true)
    (a_BadDirection_init : PySem.W.findIn K (.ref c_BadDirection) "__init__" = some (some (.ref f_BadDirection_init)))
    (t_BadDirection_init : PySem.W.typeIn K (.ref f_BadDirection_init) = some (.type "function"))
    (l_BadDirection_init : K.lookup f_BadDirection_init = some ⟨oc_BadDirection_init, od_BadDirection_init, .func (PySem.W.fnOf "__init__" "BadDirection.__init__" (defArgs s_BadDirection_init) (defBody s_BadDirection_init) (defScope s_BadDirection_init) .none kV_BadDirection_init dc_BadDirection_init pm_BadDirection_init an_BadDirection_init cd_BadDirection_init ct_BadDirection_init), sl_BadDirection_init⟩)
    (d_BadDirection_init : PySem.W.codeIn K cd_BadDirection_init "BadDirection.__init__" = true)
    (k_BadDirection_init : PySem.W.keepIn K (.ref f_BadDirection_init) = true)
    (a__law_start : PySem.W.nsIn K mainGlobals "_law_start" = some (some (.ref f__law_start)))
    (l__law_start : K.lookup f__law_start = some ⟨oc__law_start, od__law_start, .func (PySem.W.fnOf "_law_start" "_law_start" (defArgs s__law_start) (defBody s__law_start) (defScope s__law_start) .none kV__law_start dc__law_start pm__law_start an__law_start cd__law_start ct__law_start), sl__law_start⟩)
    (d__law_start : PySem.W.codeIn K cd__law_start "_law_start" = true)
    (k__law_start : PySem.W.keepIn K (.ref f__law_start) = true)
    (a__law_mixed : PySem.W.nsIn K mainGlobals "_law_mixed" = some (some (.ref f__law_mixed)))
    (l__law_mixed : K.lookup f__law_mixed = some ⟨oc__law_mixed, od__law_mixed, .func (PySem.W.fnOf "_law_mixed" "_law_mixed" (defArgs s__law_mixed) (defBody s__law_mixed) (defScope s__law_mixed) .none kV__law_mixed dc__law_mixed pm__law_mixed an__law_mixed cd__law_mixed ct__law_mixed), sl__law_mixed⟩)
    (d__law_mixed : PySem.W.codeIn K cd__law_mixed "_law_mixed" = true)
    (k__law_mixed : PySem.W.keepIn K (.ref f__law_mixed) = true)
    (a__law_draw : PySem.W.nsIn K mainGlobals "_law_draw" = some (some (.ref f__law_draw)))
    (l__law_draw : K.lookup f__law_draw = some ⟨oc__law_draw, od__law_draw, .func (PySem.W.fnOf "_law_draw" "_law_draw" (defArgs s__law_draw) (defBody s__law_draw) (defScope s__law_draw) .none kV__law_draw dc__law_draw pm__law_draw an__law_draw cd__law_draw ct__law_draw), sl__law_draw⟩)
    (d__law_draw : PySem.W.codeIn K cd__law_draw "_law_draw" = true)
    (k__law_draw : PySem.W.keepIn K (.ref f__law_draw) = true)
    (a__law_between : PySem.W.nsIn K mainGlobals "_law_between" = some (some (.ref f__law_between)))
    (l__law_between : K.lookup f__law_between = some ⟨oc__law_between, od__law_between, .func (PySem.W.fnOf "_law_between" "_law_between" (defArgs s__law_between) (defBody s__law_between) (defScope s__law_between) .none kV__law_between dc__law_between pm__law_between an__law_between cd__law_between ct__law_between), sl__law_between⟩)
    (d__law_between : PySem.W.codeIn K cd__law_between "_law_between" = true)
    (k__law_between : PySem.W.keepIn K (.ref f__law_between) = true)
    (a_is_corner : PySem.W.nsIn K mainGlobals "is_corner" = some (some (.ref f_is_corner)))
    (l_is_corner : K.lookup f_is_corner = some ⟨oc_is_corner, od_is_corner, .func (PySem.W.fnOf "is_corner" "is_corner" (defArgs s_is_corner) (defBody s_is_corner) (defScope s_is_corner) .none kV_is_corner dc_is_corner pm_is_corner an_is_corner cd_is_corner ct_is_corner), sl_is_corner⟩)
    (d_is_corner : PySem.W.codeIn K cd_is_corner "is_corner" = true)
    (k_is_corner : PySem.W.keepIn K (.ref f_is_corner) = true)
    (a_check_corner : PySem.W.nsIn K mainGlobals "check_corner" = some (some (.ref f_check_corner)))
    (l_check_corner : K.lookup f_check_corner = some ⟨oc_check_corner, od_check_corner, .func (PySem.W.fnOf "check_corner" "check_corner" (defArgs s_check_corner) (defBody s_check_corner) (defScope s_check_corner) .none kV_check_corner dc_check_corner pm_check_corner an_check_corner cd_check_corner ct_check_corner), sl_check_corner⟩)
    (d_check_corner : PySem.W.codeIn K cd_check_corner "check_corner" = true)
    (k_check_corner : PySem.W.keepIn K (.ref f_check_corner) = true)
    (a_is_direction : PySem.W.nsIn K mainGlobals "is_direction" = some (some (.ref f_is_direction)))
    (l_is_direction : K.lookup f_is_direction = some ⟨oc_is_direction, od_is_direction, .func (PySem.W.fnOf "is_direction" "is_direction" (defArgs s_is_direction) (defBody s_is_direction) (defScope s_is_direction) .none kV_is_direction dc_is_direction pm_is_direction an_is_direction cd_is_direction ct_is_direction), sl_is_direction⟩)
    (d_is_direction : PySem.W.codeIn K cd_is_direction "is_direction" = true)
    (k_is_direction : PySem.W.keepIn K (.ref f_is_direction) = true)
    (a_step : PySem.W.nsIn K mainGlobals "step" = some (some (.ref f_step)))
    (l_step : K.lookup f_step = some ⟨oc_step, od_step, .func (PySem.W.fnOf "step" "step" (defArgs s_step) (defBody s_step) (defScope s_step) .none kV_step dc_step pm_step an_step cd_step ct_step), sl_step⟩)
    (d_step : PySem.W.codeIn K cd_step "step" = true)
    (k_step : PySem.W.keepIn K (.ref f_step) = true)
    (a_stepped : PySem.W.nsIn K mainGlobals "stepped" = some (some (.ref f_stepped)))
    (l_stepped : K.lookup f_stepped = some ⟨oc_stepped, od_stepped, .func (PySem.W.fnOf "stepped" "stepped" (defArgs s_stepped) (defBody s_stepped) (defScope s_stepped) .none kV_stepped dc_stepped pm_stepped an_stepped cd_stepped ct_stepped), sl_stepped⟩)
    (d_stepped : PySem.W.codeIn K cd_stepped "stepped" = true)
    (k_stepped : PySem.W.keepIn K (.ref f_stepped) = true)
    (a_turned : PySem.W.nsIn K mainGlobals "turned" = some (some (.ref f_turned)))
    (l_turned : K.lookup f_turned = some ⟨oc_turned, od_turned, .func (PySem.W.fnOf "turned" "turned" (defArgs s_turned) (defBody s_turned) (defScope s_turned) .none kV_turned dc_turned pm_turned an_turned cd_turned ct_turned), sl_turned⟩)
    (d_turned : PySem.W.codeIn K cd_turned "turned" = true)
    (k_turned : PySem.W.keepIn K (.ref f_turned) = true)
    (a_mirrored : PySem.W.nsIn K mainGlobals "mirrored" = some (some (.ref f_mirrored)))
    (l_mirrored : K.lookup f_mirrored = some ⟨oc_mirrored, od_mirrored, .func (PySem.W.fnOf "mirrored" "mirrored" (defArgs s_mirrored) (defBody s_mirrored) (defScope s_mirrored) .none kV_mirrored dc_mirrored pm_mirrored an_mirrored cd_mirrored ct_mirrored), sl_mirrored⟩)
    (d_mirrored : PySem.W.codeIn K cd_mirrored "mirrored" = true)
    (k_mirrored : PySem.W.keepIn K (.ref f_mirrored) = true)
    (a_greater : PySem.W.nsIn K mainGlobals "greater" = some (some (.ref f_greater)))
    (l_greater : K.lookup f_greater = some ⟨oc_greater, od_greater, .func (PySem.W.fnOf "greater" "greater" (defArgs s_greater) (defBody s_greater) (defScope s_greater) .none kV_greater dc_greater pm_greater an_greater cd_greater ct_greater), sl_greater⟩)
    (d_greater : PySem.W.codeIn K cd_greater "greater" = true)
    (k_greater : PySem.W.keepIn K (.ref f_greater) = true)
    (a_lesser : PySem.W.nsIn K mainGlobals "lesser" = some (some (.ref f_lesser)))
    (l_lesser : K.lookup f_lesser = some ⟨oc_lesser, od_lesser, .func (PySem.W.fnOf "lesser" "lesser" (defArgs s_lesser) (defBody s_lesser) (defScope s_lesser) .none kV_lesser dc_lesser pm_lesser an_lesser cd_lesser ct_lesser), sl_lesser⟩)
    (d_lesser : PySem.W.codeIn K cd_lesser "lesser" = true)
    (k_lesser : PySem.W.keepIn K (.ref f_lesser) = true)
    (a__law_plus : PySem.W.nsIn K mainGlobals "_law_plus" = some (some (.ref f__law_plus)))
    (l__law_plus : K.lookup f__law_plus = some ⟨oc__law_plus, od__law_plus, .func (PySem.W.fnOf "_law_plus" "_law_plus" (defArgs s__law_plus) (defBody s__law_plus) (defScope s__law_plus) .none kV__law_plus dc__law_plus pm__law_plus an__law_plus cd__law_plus ct__law_plus), sl__law_plus⟩)
    (d__law_plus : PySem.W.codeIn K cd__law_plus "_law_plus" = true)
    (k__law_plus : PySem.W.keepIn K (.ref f__law_plus) = true)
    (a__law_minus : PySem.W.nsIn K mainGlobals "_law_minus" = some (some (.ref f__law_minus)))
    (l__law_minus : K.lookup f__law_minus = some ⟨oc__law_minus, od__law_minus, .func (PySem.W.fnOf "_law_minus" "_law_minus" (defArgs s__law_minus) (defBody s__law_minus) (defScope s__law_minus) .none kV__law_minus dc__law_minus pm__law_minus an__law_minus cd__law_minus ct__law_minus), sl__law_minus⟩)
    (d__law_minus : PySem.W.codeIn K cd__law_minus "_law_minus" = true)
    (k__law_minus : PySem.W.keepIn K (.ref f__law_minus) = true)
    (a__law_times : PySem.W.nsIn K mainGlobals "_law_times" = some (some (.ref f__law_times)))
    (l__law_times : K.lookup f__law_times = some ⟨oc__law_times, od__law_times, .func (PySem.W.fnOf "_law_times" "_law_times" (defArgs s__law_times) (defBody s__law_times) (defScope s__law_times) .none kV__law_times dc__law_times pm__law_times an__law_times cd__law_times ct__law_times), sl__law_times⟩)
    (d__law_times : PySem.W.codeIn K cd__law_times "_law_times" = true)
    (k__law_times : PySem.W.keepIn K (.ref f__law_times) = true)
    (a__law_place : PySem.W.nsIn K mainGlobals "_law_place" = some (some (.ref f__law_place)))
    (l__law_place : K.lookup f__law_place = some ⟨oc__law_place, od__law_place, .func (PySem.W.fnOf "_law_place" "_law_place" (defArgs s__law_place) (defBody s__law_place) (defScope s__law_place) .none kV__law_place dc__law_place pm__law_place an__law_place cd__law_place ct__law_place), sl__law_place⟩)
    (d__law_place : PySem.W.codeIn K cd__law_place "_law_place" = true)
    (k__law_place : PySem.W.keepIn K (.ref f__law_place) = true)
    (a__law_star : PySem.W.nsIn K mainGlobals "_law_star" = some (some (.ref f__law_star)))
    (l__law_star : K.lookup f__law_star = some ⟨oc__law_star, od__law_star, .func (PySem.W.fnOf "_law_star" "_law_star" (defArgs s__law_star) (defBody s__law_star) (defScope s__law_star) .none kV__law_star dc__law_star pm__law_star an__law_star cd__law_star ct__law_star), sl__law_star⟩)
    (d__law_star : PySem.W.codeIn K cd__law_star "_law_star" = true)
    (k__law_star : PySem.W.keepIn K (.ref f__law_star) = true)
    (a__law_corner : PySem.W.nsIn K mainGlobals "_law_corner" = some (some (.ref f__law_corner)))
    (l__law_corner : K.lookup f__law_corner = some ⟨oc__law_corner, od__law_corner, .func (PySem.W.fnOf "_law_corner" "_law_corner" (defArgs s__law_corner) (defBody s__law_corner) (defScope s__law_corner) .none kV__law_corner dc__law_corner pm__law_corner an__law_corner cd__law_corner ct__law_corner), sl__law_corner⟩)
    (d__law_corner : PySem.W.codeIn K cd__law_corner "_law_corner" = true)
    (k__law_corner : PySem.W.keepIn K (.ref f__law_corner) = true)
    (a__law_is_corner : PySem.W.nsIn K mainGlobals "_law_is_corner" = some (some (.ref f__law_is_corner)))
    (l__law_is_corner : K.lookup f__law_is_corner = some ⟨oc__law_is_corner, od__law_is_corner, .func (PySem.W.fnOf "_law_is_corner" "_law_is_corner" (defArgs s__law_is_corner) (defBody s__law_is_corner) (defScope s__law_is_corner) .none kV__law_is_corner dc__law_is_corner pm__law_is_corner an__law_is_corner cd__law_is_corner ct__law_is_corner), sl__law_is_corner⟩)
    (d__law_is_corner : PySem.W.codeIn K cd__law_is_corner "_law_is_corner" = true)
    (k__law_is_corner : PySem.W.keepIn K (.ref f__law_is_corner) = true)
    (a__law_bad_corner : PySem.W.nsIn K mainGlobals "_law_bad_corner" = some (some (.ref f__law_bad_corner)))
    (l__law_bad_corner : K.lookup f__law_bad_corner = some ⟨oc__law_bad_corner, od__law_bad_corner, .func (PySem.W.fnOf "_law_bad_corner" "_law_bad_corner" (defArgs s__law_bad_corner) (defBody s__law_bad_corner) (defScope s__law_bad_corner) .none kV__law_bad_corner dc__law_bad_corner pm__law_bad_corner an__law_bad_corner cd__law_bad_corner ct__law_bad_corner), sl__law_bad_corner⟩)
    (d__law_bad_corner : PySem.W.codeIn K cd__law_bad_corner "_law_bad_corner" = true)
    (k__law_bad_corner : PySem.W.keepIn K (.ref f__law_bad_corner) = true)
    (a__law_deed : PySem.W.nsIn K mainGlobals "_law_deed" = some (some (.ref f__law_deed)))
    (l__law_deed : K.lookup f__law_deed = some ⟨oc__law_deed, od__law_deed, .func (PySem.W.fnOf "_law_deed" "_law_deed" (defArgs s__law_deed) (defBody s__law_deed) (defScope s__law_deed) .none kV__law_deed dc__law_deed pm__law_deed an__law_deed cd__law_deed ct__law_deed), sl__law_deed⟩)
    (d__law_deed : PySem.W.codeIn K cd__law_deed "_law_deed" = true)
    (k__law_deed : PySem.W.keepIn K (.ref f__law_deed) = true)
    (a__law_done : PySem.W.nsIn K mainGlobals "_law_done" = some (some (.ref f__law_done)))
    (l__law_done : K.lookup f__law_done = some ⟨oc__law_done, od__law_done, .func (PySem.W.fnOf "_law_done" "_law_done" (defArgs s__law_done) (defBody s__law_done) (defScope s__law_done) .none kV__law_done dc__law_done pm__law_done an__law_done cd__law_done ct__law_done), sl__law_done⟩)
    (d__law_done : PySem.W.codeIn K cd__law_done "_law_done" = true)
    (k__law_done : PySem.W.keepIn K (.ref f__law_done) = true)
    (a__law_undone : PySem.W.nsIn K mainGlobals "_law_undone" = some (some (.ref f__law_undone)))
    (l__law_undone : K.lookup f__law_undone = some ⟨oc__law_undone, od__law_undone, .func (PySem.W.fnOf "_law_undone" "_law_undone" (defArgs s__law_undone) (defBody s__law_undone) (defScope s__law_undone) .none kV__law_undone dc__law_undone pm__law_undone an__law_undone cd__law_undone ct__law_undone), sl__law_undone⟩)
    (d__law_undone : PySem.W.codeIn K cd__law_undone "_law_undone" = true)
    (k__law_undone : PySem.W.keepIn K (.ref f__law_undone) = true)
    (a__law_turn : PySem.W.nsIn K mainGlobals "_law_turn" = some (some (.ref f__law_turn)))
    (l__law_turn : K.lookup f__law_turn = some ⟨oc__law_turn, od__law_turn, .func (PySem.W.fnOf "_law_turn" "_law_turn" (defArgs s__law_turn) (defBody s__law_turn) (defScope s__law_turn) .none kV__law_turn dc__law_turn pm__law_turn an__law_turn cd__law_turn ct__law_turn), sl__law_turn⟩)
    (d__law_turn : PySem.W.codeIn K cd__law_turn "_law_turn" = true)
    (k__law_turn : PySem.W.keepIn K (.ref f__law_turn) = true)
    (a__law_scaled : PySem.W.nsIn K mainGlobals "_law_scaled" = some (some (.ref f__law_scaled)))
    (l__law_scaled : K.lookup f__law_scaled = some ⟨oc__law_scaled, od__law_scaled, .func (PySem.W.fnOf "_law_scaled" "_law_scaled" (defArgs s__law_scaled) (defBody s__law_scaled) (defScope s__law_scaled) .none kV__law_scaled dc__law_scaled pm__law_scaled an__law_scaled cd__law_scaled ct__law_scaled), sl__law_scaled⟩)
    (d__law_scaled : PySem.W.codeIn K cd__law_scaled "_law_scaled" = true)
    (k__law_scaled : PySem.W.keepIn K (.ref f__law_scaled) = true)
    (a__law_unit : PySem.W.nsIn K mainGlobals "_law_unit" = some (some (.ref f__law_unit)))
    (l__law_unit : K.lookup f__law_unit = some ⟨oc__law_unit, od__law_unit, .func (PySem.W.fnOf "_law_unit" "_law_unit" (defArgs s__law_unit) (defBody s__law_unit) (defScope s__law_unit) .none kV__law_unit dc__law_unit pm__law_unit an__law_unit cd__law_unit ct__law_unit), sl__law_unit⟩)
    (d__law_unit : PySem.W.codeIn K cd__law_unit "_law_unit" = true)
    (k__law_unit : PySem.W.keepIn K (.ref f__law_unit) = true)
    (a__law_led : PySem.W.nsIn K mainGlobals "_law_led" = some (some (.ref f__law_led)))
    (l__law_led : K.lookup f__law_led = some ⟨oc__law_led, od__law_led, .func (PySem.W.fnOf "_law_led" "_law_led" (defArgs s__law_led) (defBody s__law_led) (defScope s__law_led) .none kV__law_led dc__law_led pm__law_led an__law_led cd__law_led ct__law_led), sl__law_led⟩)
    (d__law_led : PySem.W.codeIn K cd__law_led "_law_led" = true)
    (k__law_led : PySem.W.keepIn K (.ref f__law_led) = true)
    (a__law_same : PySem.W.nsIn K mainGlobals "_law_same" = some (some (.ref f__law_same)))
    (l__law_same : K.lookup f__law_same = some ⟨oc__law_same, od__law_same, .func (PySem.W.fnOf "_law_same" "_law_same" (defArgs s__law_same) (defBody s__law_same) (defScope s__law_same) .none kV__law_same dc__law_same pm__law_same an__law_same cd__law_same ct__law_same), sl__law_same⟩)
    (d__law_same : PySem.W.codeIn K cd__law_same "_law_same" = true)
    (k__law_same : PySem.W.keepIn K (.ref f__law_same) = true)
    (a__law_refusals : PySem.W.nsIn K mainGlobals "_law_refusals" = some (some (.ref f__law_refusals)))
    (l__law_refusals : K.lookup f__law_refusals = some ⟨oc__law_refusals, od__law_refusals, .func (PySem.W.fnOf "_law_refusals" "_law_refusals" (defArgs s__law_refusals) (defBody s__law_refusals) (defScope s__law_refusals) .none kV__law_refusals dc__law_refusals pm__law_refusals an__law_refusals cd__law_refusals ct__law_refusals), sl__law_refusals⟩)
    (d__law_refusals : PySem.W.codeIn K cd__law_refusals "_law_refusals" = true)
    (k__law_refusals : PySem.W.keepIn K (.ref f__law_refusals) = true)
    (a_law : PySem.W.nsIn K mainGlobals "law" = some (some (.ref f_law)))
    (l_law : K.lookup f_law = some ⟨oc_law, od_law, .func (PySem.W.fnOf "law" "law" (defArgs s_law) (defBody s_law) (defScope s_law) .none kV_law dc_law pm_law an_law cd_law ct_law), sl_law⟩)
    (d_law : PySem.W.codeIn K cd_law "law" = true)
    (k_law : PySem.W.keepIn K (.ref f_law) = true)
    : ∃ fd : FuncData, (∀ (s : Shared) (v : Value), BindsTo s fd ⟨[v], []⟩ [("script", v)]) ∧ ∀ base : Heap, K.In base → base.Ns mainGlobals mg → FnOk P w K mg base (L2.CX P w) 6 fa fd ["script"] (spTop K) := by
  have e := hfa.symm.trans (PySem.W.mg_of X G a_law)
  cases e
  have M : ∀ {n : Str} {v : Value}, PySem.W.nsIn K mainGlobals n = some (some v) → mg n = some v := fun h => PySem.W.mg_of X G h
  have O : ∀ {n : Str}, PySem.W.nsIn K mainGlobals n = some none → mg n = none := fun h => PySem.W.mg_none_of X G h
  have T : Txt (⟨K, c_FloorError, c_BadCorner, c_BadDirection⟩ : Zs) mg :=
    { n_list := O r_list
      n_int := O r_int
      n_range := O r_range
      n_len := O r_len
      n_abs := O r_abs
      n_all := O r_all
      n_isinstance := O r_isinstance
      n_tuple := O r_tuple
      n_bool := O r_bool
      n_zip := O r_zip
      g_FloorError := M r_FloorError
      g_BadCorner := M r_BadCorner
      g_BadDirection := M r_BadDirection
      x_BadCorner := ⟨⟨nmBadCorner, qBadCorner, NBadCorner, bsBadCorner, _, snBadCorner, subBadCorner, abBadCorner, colBadCorner, ddBadCorner, m0BadCorner, m1BadCorner, m2BadCorner, m3BadCorner, m5BadCorner, e_L_BadCorner, rfl⟩, e_sa_BadCorner, e_e_BadCorner, e_t_BadCorner, e_k_BadCorner⟩
      xn_BadCorner := e_n_BadCorner
      xf_BadCorner := ⟨e_ga_BadCorner, e_gg_BadCorner, e_e_BadCorner, e_hd_BadCorner⟩
      xm_BadCorner := exm_mk e_e_BadCorner e_ic_BadCorner e_t_BadCorner e_s_BadCorner
      x_BadDirection := ⟨⟨nmBadDirection, qBadDirection, NBadDirection, bsBadDirection, _, snBadDirection, subBadDirection, abBadDirection, colBadDirection, ddBadDirection, m0BadDirection, m1BadDirection, m2BadDirection, m3BadDirection, m5BadDirection, e_L_BadDirection, rfl⟩, e_sa_BadDirection, e_e_BadDirection, e_t_BadDirection, e_k_BadDirection⟩
      xn_BadDirection := e_n_BadDirection
      xf_BadDirection := ⟨e_ga_BadDirection, e_gg_BadDirection, e_e_BadDirection, e_hd_BadDirection⟩
      xm_BadDirection := exm_mk e_e_BadDirection e_ic_BadDirection e_t_BadDirection e_s_BadDirection
    }
  have F_is_integral := fun_mk (st := s_is_integral) l_is_integral d_is_integral k_is_integral
  have B_is_integral := F_is_integral.binds (ps := ["thing"]) fun _ _ _ _ _ _ us hl => match us, hl with | [_], _ => rfl
  have F_BadCorner_init := fun_mk (st := s_BadCorner_init) l_BadCorner_init d_BadCorner_init k_BadCorner_init
  have B_BadCorner_init := F_BadCorner_init.binds (ps := ["self", "corner"]) fun _ _ _ _ _ _ us hl => match us, hl with | [_, _], _ => rfl
  have F_BadDirection_init := fun_mk (st := s_BadDirection_init) l_BadDirection_init d_BadDirection_init k_BadDirection_init
  have B_BadDirection_init := F_BadDirection_init.binds (ps := ["self", "direction"]) fun _ _ _ _ _ _ us hl => match us, hl with | [_, _], _ => rfl
  have F__law_start := fun_mk (st := s__law_start) l__law_start d__law_start k__law_start
  have B__law_start := F__law_start.binds (ps := ["script"]) fun _ _ _ _ _ _ us hl => match us, hl with | [_], _ => rfl
  have F__law_mixed := fun_mk (st := s__law_mixed) l__law_mixed d__law_mixed k__law_mixed
  have B__law_mixed := F__law_mixed.binds (ps := ["cell", "count"]) fun _ _ _ _ _ _ us hl => match us, hl with | [_, _], _ => rfl
  have F__law_draw := fun_mk (st := s__law_draw) l__law_draw d__law_draw k__law_draw
  have B__law_draw := F__law_draw.binds (ps := ["state", "many"]) fun _ _ _ _ _ _ us hl => match us, hl with | [_, _], _ => rfl
  have F__law_between := fun_mk (st := s__law_between) l__law_between d__law_between k__law_between
  have B__law_between := F__law_between.binds (ps := ["state", "least", "most"]) fun _ _ _ _ _ _ us hl => match us, hl with | [_, _, _], _ => rfl
  have F_is_corner := fun_mk (st := s_is_corner) l_is_corner d_is_corner k_is_corner
  have B_is_corner := F_is_corner.binds (ps := ["thing"]) fun _ _ _ _ _ _ us hl => match us, hl with | [_], _ => rfl
  have F_check_corner := fun_mk (st := s_check_corner) l_check_corner d_check_corner k_check_corner
  have B_check_corner := F_check_corner.binds (ps := ["corner"]) fun _ _ _ _ _ _ us hl => match us, hl with | [_], _ => rfl
  have F_is_direction := fun_mk (st := s_is_direction) l_is_direction d_is_direction k_is_direction
  have B_is_direction := F_is_direction.binds (ps := ["thing"]) fun _ _ _ _ _ _ us hl => match us, hl with | [_], _ => rfl
  have F_step := fun_mk (st := s_step) l_step d_step k_step
  have B_step := F_step.binds (ps := ["corner", "direction", "many"]) fun _ _ _ _ _ _ us hl => match us, hl with | [_, _, _], _ => rfl
  have F_stepped := fun_mk (st := s_stepped) l_stepped d_stepped k_stepped
  have B_stepped := F_stepped.binds (ps := ["corner", "direction", "many"]) fun _ _ _ _ _ _ us hl => match us, hl with | [_, _, _], _ => rfl
  have F_turned := fun_mk (st := s_turned) l_turned d_turned k_turned
  have B_turned := F_turned.binds (ps := ["corner", "eighths"]) fun _ _ _ _ _ _ us hl => match us, hl with | [_, _], _ => rfl
  have F_mirrored := fun_mk (st := s_mirrored) l_mirrored d_mirrored k_mirrored
  have B_mirrored := F_mirrored.binds (ps := ["corner"]) fun _ _ _ _ _ _ us hl => match us, hl with | [_], _ => rfl
  have F_greater := fun_mk (st := s_greater) l_greater d_greater k_greater
  have B_greater := F_greater.binds (ps := ["corner"]) fun _ _ _ _ _ _ us hl => match us, hl with | [_], _ => rfl
  have F_lesser := fun_mk (st := s_lesser) l_lesser d_lesser k_lesser
  have B_lesser := F_lesser.binds (ps := ["corner"]) fun _ _ _ _ _ _ us hl => match us, hl with | [_], _ => rfl
  have F__law_plus := fun_mk (st := s__law_plus) l__law_plus d__law_plus k__law_plus
  have B__law_plus := F__law_plus.binds (ps := ["one", "other"]) fun _ _ _ _ _ _ us hl => match us, hl with | [_, _], _ => rfl
  have F__law_minus := fun_mk (st := s__law_minus) l__law_minus d__law_minus k__law_minus
  have B__law_minus := F__law_minus.binds (ps := ["one", "other"]) fun _ _ _ _ _ _ us hl => match us, hl with | [_, _], _ => rfl
  have F__law_times := fun_mk (st := s__law_times) l__law_times d__law_times k__law_times
  have B__law_times := F__law_times.binds (ps := ["one", "other"]) fun _ _ _ _ _ _ us hl => match us, hl with | [_, _], _ => rfl
  have F__law_place := fun_mk (st := s__law_place) l__law_place d__law_place k__law_place
  have B__law_place := F__law_place.binds (ps := ["corner"]) fun _ _ _ _ _ _ us hl => match us, hl with | [_], _ => rfl
  have F__law_star := fun_mk (st := s__law_star) l__law_star d__law_star k__law_star
  have B__law_star := F__law_star.binds (ps := ["corner"]) fun _ _ _ _ _ _ us hl => match us, hl with | [_], _ => rfl
  have F__law_corner := fun_mk (st := s__law_corner) l__law_corner d__law_corner k__law_corner
  have B__law_corner := F__law_corner.binds (ps := ["state"]) fun _ _ _ _ _ _ us hl => match us, hl with | [_], _ => rfl
  have F__law_is_corner := fun_mk (st := s__law_is_corner) l__law_is_corner d__law_is_corner k__law_is_corner
  have B__law_is_corner := F__law_is_corner.binds (ps := ["thing"]) fun _ _ _ _ _ _ us hl => match us, hl with | [_], _ => rfl
  have F__law_bad_corner := fun_mk (st := s__law_bad_corner) l__law_bad_corner d__law_bad_corner k__law_bad_corner
  have B__law_bad_corner := F__law_bad_corner.binds (ps := ["state", "corner"]) fun _ _ _ _ _ _ us hl => match us, hl with | [_, _], _ => rfl
  have F__law_deed := fun_mk (st := s__law_deed) l__law_deed d__law_deed k__law_deed
  have B__law_deed := F__law_deed.binds (ps := ["state"]) fun _ _ _ _ _ _ us hl => match us, hl with | [_], _ => rfl
  have F__law_done := fun_mk (st := s__law_done) l__law_done d__law_done k__law_done
  have B__law_done := F__law_done.binds (ps := ["corner", "deed"]) fun _ _ _ _ _ _ us hl => match us, hl with | [_, _], _ => rfl
  have F__law_undone := fun_mk (st := s__law_undone) l__law_undone d__law_undone k__law_undone
  have B__law_undone := F__law_undone.binds (ps := ["deed"]) fun _ _ _ _ _ _ us hl => match us, hl with | [_], _ => rfl
  have F__law_turn := fun_mk (st := s__law_turn) l__law_turn d__law_turn k__law_turn
  have B__law_turn := F__law_turn.binds (ps := ["point", "eighths"]) fun _ _ _ _ _ _ us hl => match us, hl with | [_, _], _ => rfl
  have F__law_scaled := fun_mk (st := s__law_scaled) l__law_scaled d__law_scaled k__law_scaled
  have B__law_scaled := F__law_scaled.binds (ps := ["point", "number"]) fun _ _ _ _ _ _ us hl => match us, hl with | [_, _], _ => rfl
  have F__law_unit := fun_mk (st := s__law_unit) l__law_unit d__law_unit k__law_unit
  have B__law_unit := F__law_unit.binds (ps := ["way"]) fun _ _ _ _ _ _ us hl => match us, hl with | [_], _ => rfl
  have F__law_led := fun_mk (st := s__law_led) l__law_led d__law_led k__law_led
  have B__law_led := F__law_led.binds (ps := ["point", "deed", "is_star"]) fun _ _ _ _ _ _ us hl => match us, hl with | [_, _, _], _ => rfl
  have F__law_same := fun_mk (st := s__law_same) l__law_same d__law_same k__law_same
  have B__law_same := F__law_same.binds (ps := ["one", "other"]) fun _ _ _ _ _ _ us hl => match us, hl with | [_, _], _ => rfl
  have F__law_refusals := fun_mk (st := s__law_refusals) l__law_refusals d__law_refusals k__law_refusals
  have B__law_refusals := F__law_refusals.binds (ps := ["corner", "eighths"]) fun _ _ _ _ _ _ us hl => match us, hl with | [_, _], _ => rfl
  have F_law := fun_mk (st := s_law) l_law d_law k_law
  refine ⟨PySem.W.fnOf "law" "law" (defArgs s_law) (defBody s_law) (defScope s_law) .none kV_law dc_law pm_law an_law cd_law ct_law, fun s v => .of_eq rfl, fun base _ _ => ?_⟩
  have h_is_integral := ok_is_integral (P := P) (w := w) (base := base) T  ⟨_, _, F_is_integral, B_is_integral, M a_is_integral⟩
  have h_BadCorner := ok_BadCorner_init (P := P) (w := w) (base := base) T  ⟨_, _, F_BadCorner_init, B_BadCorner_init, M r_BadCorner, a_BadCorner_init, t_BadCorner_init⟩
  have h_BadDirection := ok_BadDirection_init (P := P) (w := w) (base := base) T  ⟨_, _, F_BadDirection_init, B_BadDirection_init, M r_BadDirection, a_BadDirection_init, t_BadDirection_init⟩
  have h__law_start := ok__law_start (P := P) (w := w) (base := base) T  ⟨_, _, F__law_start, B__law_start, M a__law_start⟩
  have h__law_mixed := ok__law_mixed (P := P) (w := w) (base := base) T  ⟨_, _, F__law_mixed, B__law_mixed, M a__law_mixed⟩
  have h__law_draw := ok__law_draw (P := P) (w := w) (base := base) T h__law_mixed ⟨_, _, F__law_draw, B__law_draw, M a__law_draw⟩
  have h__law_between := ok__law_between (P := P) (w := w) (base := base) T h__law_draw ⟨_, _, F__law_between, B__law_between, M a__law_between⟩
  have h_is_corner := ok_is_corner (P := P) (w := w) (base := base) T h_is_integral ⟨_, _, F_is_corner, B_is_corner, M a_is_corner⟩
  have h_check_corner := ok_check_corner (P := P) (w := w) (base := base) T h_is_corner h_BadCorner ⟨_, _, F_check_corner, B_check_corner, M a_check_corner⟩
  have h_is_direction := ok_is_direction (P := P) (w := w) (base := base) T h_is_integral ⟨_, _, F_is_direction, B_is_direction, M a_is_direction⟩
  have h_step := ok_step (P := P) (w := w) (base := base) T  ⟨_, _, F_step, B_step, M a_step⟩
  have h_stepped := ok_stepped (P := P) (w := w) (base := base) T h_step h_is_direction h_BadDirection h_check_corner ⟨_, _, F_stepped, B_stepped, M a_stepped⟩
  have h_turned := ok_turned (P := P) (w := w) (base := base) T h_check_corner ⟨_, _, F_turned, B_turned, M a_turned⟩
  have h_mirrored := ok_mirrored (P := P) (w := w) (base := base) T h_check_corner ⟨_, _, F_mirrored, B_mirrored, M a_mirrored⟩
  have h_greater := ok_greater (P := P) (w := w) (base := base) T h_check_corner ⟨_, _, F_greater, B_greater, M a_greater⟩
  have h_lesser := ok_lesser (P := P) (w := w) (base := base) T h_check_corner ⟨_, _, F_lesser, B_lesser, M a_lesser⟩
  have h__law_plus := ok__law_plus (P := P) (w := w) (base := base) T  ⟨_, _, F__law_plus, B__law_plus, M a__law_plus⟩
  have h__law_minus := ok__law_minus (P := P) (w := w) (base := base) T  ⟨_, _, F__law_minus, B__law_minus, M a__law_minus⟩
  have h__law_times := ok__law_times (P := P) (w := w) (base := base) T  ⟨_, _, F__law_times, B__law_times, M a__law_times⟩
  have h__law_place := ok__law_place (P := P) (w := w) (base := base) T  ⟨_, _, F__law_place, B__law_place, M a__law_place⟩
  have h__law_star := ok__law_star (P := P) (w := w) (base := base) T  ⟨_, _, F__law_star, B__law_star, M a__law_star⟩
  have h__law_corner := ok__law_corner (P := P) (w := w) (base := base) T h__law_between h__law_draw ⟨_, _, F__law_corner, B__law_corner, M a__law_corner⟩
  have h__law_is_corner := ok__law_is_corner (P := P) (w := w) (base := base) T  ⟨_, _, F__law_is_corner, B__law_is_corner, M a__law_is_corner⟩
  have h__law_bad_corner := ok__law_bad_corner (P := P) (w := w) (base := base) T h__law_draw ⟨_, _, F__law_bad_corner, B__law_bad_corner, M a__law_bad_corner⟩
  have h__law_deed := ok__law_deed (P := P) (w := w) (base := base) T h__law_draw h__law_between ⟨_, _, F__law_deed, B__law_deed, M a__law_deed⟩
  have h__law_done := ok__law_done (P := P) (w := w) (base := base) T h_stepped h_lesser h_greater h_mirrored h_turned ⟨_, _, F__law_done, B__law_done, M a__law_done⟩
  have h__law_undone := ok__law_undone (P := P) (w := w) (base := base) T  ⟨_, _, F__law_undone, B__law_undone, M a__law_undone⟩
  have h__law_turn := ok__law_turn (P := P) (w := w) (base := base) T h__law_times h__law_plus h__law_minus ⟨_, _, F__law_turn, B__law_turn, M a__law_turn⟩
  have h__law_scaled := ok__law_scaled (P := P) (w := w) (base := base) T h__law_times ⟨_, _, F__law_scaled, B__law_scaled, M a__law_scaled⟩
  have h__law_unit := ok__law_unit (P := P) (w := w) (base := base) T  ⟨_, _, F__law_unit, B__law_unit, M a__law_unit⟩
  have h__law_led := ok__law_led (P := P) (w := w) (base := base) T h__law_plus h__law_star h__law_unit h__law_place h__law_scaled h__law_minus h__law_turn ⟨_, _, F__law_led, B__law_led, M a__law_led⟩
  have h__law_same := ok__law_same (P := P) (w := w) (base := base) T h__law_minus ⟨_, _, F__law_same, B__law_same, M a__law_same⟩
  have h__law_refusals := ok__law_refusals (P := P) (w := w) (base := base) T h_lesser h_greater h_mirrored h_turned ⟨_, _, F__law_refusals, B__law_refusals, M a__law_refusals⟩
  exact (ok_law (P := P) (w := w) (base := base) T h__law_done h__law_undone h__law_same h__law_led h__law_star h__law_place h__law_is_corner h__law_deed h__law_refusals h__law_bad_corner h__law_corner h__law_draw h__law_start F_law).imp fun vs H Q E hs => hs
theorem walk {l : PySem.W.OpenLaw} {q : Program} {loose : List Str} {XP : (Str → Option Value) → Heap → Prop} {YP : World → Heap → Prop} {d : DefRec} {K : Params → PySem.W.Frag} (hn : l.most = some 63) (hdf : d.params.defaults = [])
    (hY : ∀ (w : World) (h : Heap), YP w h → (K w.params).In h)
    (F : ∀ (w : World) (mg : Str → Option Value) (fa : Addr) (h : Heap), (K w.params).In h → h.Ns mainGlobals mg → mg d.name = some (.ref fa) →
      ∃ fd : FuncData, (∀ (s : Shared) (u : Value), BindsTo s fd ⟨[u], []⟩ [("script", u)]) ∧ ∀ base : Heap, (K w.params).In base → base.Ns mainGlobals mg → FnOk l.prog w (K w.params) mg base (L2.CX l.prog w) 6 fa fd ["script"] (spTop (K w.params))) :
    PySem.W.WalkO q loose XP YP l.row.toRowW d [] (fun f vs => PySem.call f vs) :=
  L2.walk_of (n := 63) (k := 6) (x := "script") (CX := fun w => L2.CX l.prog w) (sp := fun w => spTop (K w.params)) hn (by decide) hdf ⟨rfl, by decide, by decide⟩ hY F (fun _ _ a ns _ _ hS => ⟨a, ns, rfl, hS, fun _ => rfl⟩) fun _ _ _ _ _ z => cx_no z
end L2.My
open PySem PySem.W PyProof.Rows in
set_option maxRecDepth 100000 in
set_option maxHeartbeats 0 in
theorem PySem.Challenge.cw_threetiles_k05_whole_corners_turned_and_holds : PySem.Challenge.rw_threetiles_k05_whole_corners_turned_and.Holds := by
  w_on; o_law; k_head; (case hw => w_witness2)
  k_fill
  refine L2.My.walk (l := PySem.Challenge.rw_threetiles_k05_whole_corners_turned_and) rfl rfl (fun w h Y => PySem.W.kIn_of Y) ?F
  case F =>
    intro w mg fa h KX G hmg
    refine' L2.My.all_mk KX G hmg ?r_FloorError ?r_BadCorner ?r_BadDirection ?r_list ?r_int ?r_range ?r_len ?r_abs ?r_all ?r_isinstance ?r_tuple ?r_bool ?r_zip ?e_L_BadCorner ?e_sa_BadCorner ?e_e_BadCorner ?e_t_BadCorner ?e_k_BadCorner ?e_n_BadCorner ?e_ga_BadCorner ?e_gg_BadCorner ?e_hd_BadCorner ?e_ic_BadCorner ?e_s_BadCorner ?e_L_BadDirection ?e_sa_BadDirection ?e_e_BadDirection ?e_t_BadDirection ?e_k_BadDirection ?e_n_BadDirection ?e_ga_BadDirection ?e_gg_BadDirection ?e_hd_BadDirection ?e_ic_BadDirection ?e_s_BadDirection ?a_is_integral ?l_is_integral ?d_is_integral ?k_is_integral ?a_BadCorner_init ?t_BadCorner_init ?l_BadCorner_init ?d_BadCorner_init ?k_BadCorner_init ?a_BadDirection_init ?t_BadDirection_init ?l_BadDirection_init ?d_BadDirection_init ?k_BadDirection_init ?a__law_start ?l__law_start ?d__law_start ?k__law_start ?a__law_mixed ?l__law_mixed ?d__law_mixed ?k__law_mixed ?a__law_draw ?l__law_draw ?d__law_draw ?k__law_draw ?a__law_between ?l__law_between ?d__law_between ?k__law_between ?a_is_corner ?l_is_corner ?d_is_corner ?k_is_corner ?a_check_corner ?l_check_corner ?d_check_corner ?k_check_corner ?a_is_direction ?l_is_direction ?d_is_direction ?k_is_direction ?a_step ?l_step ?d_step ?k_step ?a_stepped ?l_stepped ?d_stepped ?k_stepped ?a_turned ?l_turned ?d_turned ?k_turned ?a_mirrored ?l_mirrored ?d_mirrored ?k_mirrored ?a_greater ?l_greater ?d_greater ?k_greater ?a_lesser ?l_lesser ?d_lesser ?k_lesser ?a__law_plus ?l__law_plus ?d__law_plus ?k__law_plus ?a__law_minus ?l__law_minus ?d__law_minus ?k__law_minus ?a__law_times ?l__law_times ?d__law_times ?k__law_times ?a__law_place ?l__law_place ?d__law_place ?k__law_place ?a__law_star ?l__law_star ?d__law_star ?k__law_star ?a__law_corner ?l__law_corner ?d__law_corner ?k__law_corner ?a__law_is_corner ?l__law_is_corner ?d__law_is_corner ?k__law_is_corner ?a__law_bad_corner ?l__law_bad_corner ?d__law_bad_corner ?k__law_bad_corner ?a__law_deed ?l__law_deed ?d__law_deed ?k__law_deed ?a__law_done ?l__law_done ?d__law_done ?k__law_done ?a__law_undone ?l__law_undone ?d__law_undone ?k__law_undone ?a__law_turn ?l__law_turn ?d__law_turn ?k__law_turn ?a__law_scaled ?l__law_scaled ?d__law_scaled ?k__law_scaled ?a__law_unit ?l__law_unit ?d__law_unit ?k__law_unit ?a__law_led ?l__law_led ?d__law_led ?k__law_led ?a__law_same ?l__law_same ?d__law_same ?k__law_same ?a__law_refusals ?l__law_refusals ?d__law_refusals ?k__law_refusals ?a_law ?l_law ?d_law ?k_law
    (case r_FloorError => k_is)
    (case r_BadCorner => k_is)
    (case r_BadDirection => k_is)
    (case r_list => k_is)
    (case r_int => k_is)
    (case r_range => k_is)
    (case r_len => k_is)
    (case r_abs => k_is)
    (case r_all => k_is)
    (case r_isinstance => k_is)
    (case r_tuple => k_is)
    (case r_bool => k_is)
    (case r_zip => k_is)
    (case e_L_BadCorner => k_is)
    (case e_sa_BadCorner => k_is)
    (case e_e_BadCorner => k_is)
    (case e_t_BadCorner => k_is)
    (case e_k_BadCorner => k_is)
    (case e_n_BadCorner => k_is)
    (case e_ga_BadCorner => k_is)
    (case e_gg_BadCorner => k_is)
    (case e_hd_BadCorner => k_is)
    (case e_ic_BadCorner => k_is)
    (case e_s_BadCorner => k_is)
    (case e_L_BadDirection => k_is)
    (case e_sa_BadDirection => k_is)
    (case e_e_BadDirection => k_is)
    (case e_t_BadDirection => k_is)
    (case e_k_BadDirection => k_is)
    (case e_n_BadDirection => k_is)
    (case e_ga_BadDirection => k_is)
    (case e_gg_BadDirection => k_is)
    (case e_hd_BadDirection => k_is)
    (case e_ic_BadDirection => k_is)
    (case e_s_BadDirection => k_is)
    (case a_is_integral => k_is)
    (case l_is_integral => k_is)
    (case d_is_integral => k_is)
    (case k_is_integral => k_is)
    (case a_BadCorner_init => k_is)
    (case t_BadCorner_init => k_is)
    (case l_BadCorner_init => k_is)
    (case d_BadCorner_init => k_is)
    (case k_BadCorner_init => k_is)
    (case a_BadDirection_init => k_is)
    (case t_BadDirection_init => k_is)
    (case l_BadDirection_init => k_is)
    (case d_BadDirection_init => k_is)
    (case k_BadDirection_init => k_is)
    (case a__law_start => k_is)
    (case l__law_start => k_is)
    (case d__law_start => k_is)
    (case k__law_start => k_is)
    (case a__law_mixed => k_is)
    (case l__law_mixed => k_is)
    (case d__law_mixed => k_is)
    (case k__law_mixed => k_is)
    (case a__law_draw => k_is)
    (case l__law_draw => k_is)
    (case d__law_draw => k_is)
    (case k__law_draw => k_is)
    (case a__law_between => k_is)
    (case l__law_between => k_is)
    (case d__law_between => k_is)
    (case k__law_between => k_is)
    (case a_is_corner => k_is)
    (case l_is_corner => k_is)
    (case d_is_corner => k_is)
    (case k_is_corner => k_is)
    (case a_check_corner => k_is)
    (case l_check_corner => k_is)
    (case d_check_corner => k_is)
    (case k_check_corner => k_is)
    (case a_is_direction => k_is)
    (case l_is_direction => k_is)
    (case d_is_direction => k_is)
    (case k_is_direction => k_is)
    (case a_step => k_is)
    (case l_step => k_is)
    (case d_step => k_is)
    (case k_step => k_is)
    (case a_stepped => k_is)
    (case l_stepped => k_is)
    (case d_stepped => k_is)
    (case k_stepped => k_is)
    (case a_turned => k_is)
    (case l_turned => k_is)
    (case d_turned => k_is)
    (case k_turned => k_is)
    (case a_mirrored => k_is)
    (case l_mirrored => k_is)
    (case d_mirrored => k_is)
    (case k_mirrored => k_is)
    (case a_greater => k_is)
    (case l_greater => k_is)
    (case d_greater => k_is)
    (case k_greater => k_is)
    (case a_lesser => k_is)
    (case l_lesser => k_is)
    (case d_lesser => k_is)
    (case k_lesser => k_is)
    (case a__law_plus => k_is)
    (case l__law_plus => k_is)
    (case d__law_plus => k_is)
    (case k__law_plus => k_is)
    (case a__law_minus => k_is)
    (case l__law_minus => k_is)
    (case d__law_minus => k_is)
    (case k__law_minus => k_is)
    (case a__law_times => k_is)
    (case l__law_times => k_is)
    (case d__law_times => k_is)
    (case k__law_times => k_is)
    (case a__law_place => k_is)
    (case l__law_place => k_is)
    (case d__law_place => k_is)
    (case k__law_place => k_is)
    (case a__law_star => k_is)
    (case l__law_star => k_is)
    (case d__law_star => k_is)
    (case k__law_star => k_is)
    (case a__law_corner => k_is)
    (case l__law_corner => k_is)
    (case d__law_corner => k_is)
    (case k__law_corner => k_is)
    (case a__law_is_corner => k_is)
    (case l__law_is_corner => k_is)
    (case d__law_is_corner => k_is)
    (case k__law_is_corner => k_is)
    (case a__law_bad_corner => k_is)
    (case l__law_bad_corner => k_is)
    (case d__law_bad_corner => k_is)
    (case k__law_bad_corner => k_is)
    (case a__law_deed => k_is)
    (case l__law_deed => k_is)
    (case d__law_deed => k_is)
    (case k__law_deed => k_is)
    (case a__law_done => k_is)
    (case l__law_done => k_is)
    (case d__law_done => k_is)
    (case k__law_done => k_is)
    (case a__law_undone => k_is)
    (case l__law_undone => k_is)
    (case d__law_undone => k_is)
    (case k__law_undone => k_is)
    (case a__law_turn => k_is)
    (case l__law_turn => k_is)
    (case d__law_turn => k_is)
    (case k__law_turn => k_is)
    (case a__law_scaled => k_is)
    (case l__law_scaled => k_is)
    (case d__law_scaled => k_is)
    (case k__law_scaled => k_is)
    (case a__law_unit => k_is)
    (case l__law_unit => k_is)
    (case d__law_unit => k_is)
    (case k__law_unit => k_is)
    (case a__law_led => k_is)
    (case l__law_led => k_is)
    (case d__law_led => k_is)
    (case k__law_led => k_is)
    (case a__law_same => k_is)
    (case l__law_same => k_is)
    (case d__law_same => k_is)
    (case k__law_same => k_is)
    (case a__law_refusals => k_is)
    (case l__law_refusals => k_is)
    (case d__law_refusals => k_is)
    (case k__law_refusals => k_is)
    (case a_law => k_is)
    (case l_law => k_is)
    (case d_law => k_is)
    (case k_law => k_is)
