import PyProof.Rows.All
import Wide.All
import OpenK.AllK
import Wide.FinOn
import HandS.ForMost
import HandS.ForExc
import HandS.SlotsOwn
import KE.KMathG
import KE.KOpsOwn
import HandS.ExcInit
import HandS.ExcField
import HandS.ExcIs
import HandS.IsInst
import HandS.OwnEq
import HandS.Gcd
import HandS.Wide
import HandS.Codes
import HandS.Style
import HandS.DictComp
import HandS.Zip
import HandS.TupAny
import HandS.TryMany
import KE.KMathGC
import HandS.Deep
import KE.SortData
import KE.KDictDisplayH
import PySem.Challenge.RW_threetiles_k13_whole_around_by_steps
set_option Elab.async false
set_option linter.all false
set_option maxRecDepth 100000
set_option maxHeartbeats 4000000

/-! W0: what all my proofs share: callees by name (Has), steps that walk a reading (walk_at "w"), wide rules. -/
namespace L2.My
open PySem PySem.Spec PyProof.Rows

/-! ### callees by name -/
section
variable (P : Program) (w : World) (K : PySem.W.Frag) (mg : Str → Option Value) (base : Heap)
/-- a def of the module that keeps a promise -/
def Has (x : Str) (k : Nat) (ps : List Str) (sp : Sp) : Prop :=
  ∃ f fd, FnOk P w K mg base (L2.CX P w) k f fd ps sp ∧ mg x = some (.ref f) ∧ PySem.W.keepIn K (.ref f) = true ∧ Binds K fd ps []
/-- a method -/
def HasM (C : Addr) (m : Str) (k : Nat) (ps : List Str) (sp : Sp) : Prop :=
  ∃ f fd, FnOk P w K mg base (L2.CX P w) k f fd ps sp ∧ Meth K C m f ∧ Binds K fd ps []
/-- a class that is made -/
def HasC (x : Str) (C : Addr) (k : Nat) (ps : List Str) (sp : Sp) : Prop :=
  ∃ f fd, FnOk P w K mg base (L2.CX P w) k f fd ps sp ∧ Mk K C f ∧ mg x = some (.ref C) ∧ Binds K fd ps []
end
section
variable {X : Cx} {x m : Str} {k j : Nat} {ps : List Str} {sp : Sp} {E : St → XK} {e o : Expr} {es : List Expr} {t : TA} {ta : TE} {p pos apos : Pos} {C f : Addr} {fd : FuncData}
/-- nothing is let out -/
theorem pa0 : ∀ σ, PassesAt (L2.CX X.prog X.w) X σ ((fun _ => E0 : St → XK) σ) := fun σ pins H s e s' I h => passL pins σ H s e s' I h
/-- what is wished at the slots -/
theorem paW {W : WX} (tk : Takes X W) : ∀ σ, PassesAt (L2.CX X.prog X.w) X σ (WE W σ) := fun σ => passAt tk σ
/-- what the def wishes of an exception -/
abbrev ED (E : XK) : St → XK := WE (fun cls d _ H => E cls d H)
theorem pe_h (h : Has X.prog X.w X.K X.mg X.base x k ps sp) (hr : Room j X.A) (hx : ∀ σ, PassesAt (L2.CX X.prog X.w) X σ (E σ)) (ha : PA X (e :: es) t) (hj : k ≤ j := by decide) (hg : Gl X x := by rfl) (hdb : (x == ("__debug__" : Str)) = false := by decide)
    (he : starEach (e :: es) X.env = (false, eval e X.env) :: starEach es X.env := by rfl) (hpl : (backTo pos (starEach es X.env)).any (·.1) = false := by rfl) :
    PE X (.Call (.Name x p) (e :: es) [] pos) (tCallS sp E t) := by
  obtain ⟨f, fd, F, hm, hk, hb⟩ := h
  exact pe_callS F (hr.mono hj) hg hm hk hb hx ha hdb he hpl
theorem pe_h0 (h : Has X.prog X.w X.K X.mg X.base x k ps sp) (hr : Room j X.A) (hx : ∀ σ, PassesAt (L2.CX X.prog X.w) X σ (E σ)) (hj : k ≤ j := by decide) (hg : Gl X x := by rfl) (hdb : (x == ("__debug__" : Str)) = false := by decide) :
    PE X (.Call (.Name x p) [] [] pos) (tCallS sp E tNil) := by
  obtain ⟨f, fd, F, hm, hk, hb⟩ := h
  refine ⟨fun pins s σ H Q I hh => ?_⟩
  refine wpAny_Call_Name_kw (ld_glob I hg hm ?_ hdb)
  exact PySem.W.callWith_K0 I.kIn hk (run_fnS (us := []) F (hr.mono hj) hb (hx σ) I .nil hh)
/-- C(..) -/
theorem run_makeS {pins : List (Addr × Obj)} {σ : St} {H : Hp} {s : Shared} {Q : VK} {us : List Value} {vs : List V} (M : Mk X.K C f) (F : FnOk X.prog X.w X.K X.mg X.base (L2.CX X.prog X.w) k f fd ps sp) (hr : Room (k + 1) X.A) (hb : Binds X.K fd ps [])
    (hx : PassesAt (L2.CX X.prog X.w) X σ (E σ)) (I : Inv X pins σ H s) (r : Vals vs us)
    (h : ∀ x dx, H x = none → H dx = none → dx ≠ x → sp (.ref x :: vs) (upd (upd H dx (.own x)) x (.ins C dx [])) (fun v H2 => v = .non ∧ Q (.ref x) H2) (E σ)) :
    wpAny (model X.prog X.w) X.A (call (.ref C) us) (EP X pins σ Q) X.xe s := by
  have hq := h (s.heap.objs.size + 1) s.heap.objs.size (I.hok.fresh (Nat.le_succ _)) (I.hok.fresh (Nat.le_refl _)) (Nat.ne_of_lt (Nat.lt_succ_self _))
  have I2 := Inv.made (C := C) I
  have r2 : Vals (V.ref (s.heap.objs.size + 1) :: vs) (Value.ref (s.heap.objs.size + 1) :: us) := .cons rfl r
  have hl : (Value.ref (s.heap.objs.size + 1) :: us).length = ps.length := by
    have e := r2.length
    rw [F.len _ _ _ _ hq] at e
    exact e.symm
  have bb := hb _ (Value.ref (s.heap.objs.size + 1) :: us) I2.kIn (by rw [List.append_nil]; exact hl)
  rw [List.append_nil] at bb
  refine wpAny_call (make_map (f := f) I.kIn M.makes M.init (beq_iff_eq.mp M.fn) (codeAny_mono (F.run _ X.stack _ _ ⟨Value.ref (s.heap.objs.size + 1) :: us, []⟩ (Value.ref (s.heap.objs.size + 1) :: us) _ _ (E σ) (hr.make C us [])
    (I2.env0.make C us []) bb r2 hq) fun r s' hq' => ?_))
  cases r with
  | error e => exact hx pins _ _ e s' I2 hq'
  | ok fl =>
    cases fl with
    | ret u =>
      obtain ⟨v, H', I3, rv, ev, q3⟩ := I2.after hq'
      subst ev
      exact ⟨rv, ⟨V.ref (s.heap.objs.size + 1), H', I3, rfl, q3⟩⟩
    | next => exact False.elim hq'
    | brk => exact False.elim hq'
    | cont => exact False.elim hq'
def tMakeS (C : Addr) (sp : Sp) (E : St → XK) (t : TA) : TE := fun σ H Q => t σ H fun vs H1 => ∀ x dx, H1 x = none → H1 dx = none → dx ≠ x →
  sp (.ref x :: vs) (upd (upd H1 dx (.own x)) x (.ins C dx [])) (fun v H2 => v = .non ∧ Q (.ref x) H2) (E σ)
theorem pe_hc (h : HasC X.prog X.w X.K X.mg X.base x C k ps sp) (hr : Room j X.A) (hx : ∀ σ, PassesAt (L2.CX X.prog X.w) X σ (E σ)) (ha : PA X (e :: es) t) (hj : k + 1 ≤ j := by decide) (hg : Gl X x := by rfl) (hdb : (x == ("__debug__" : Str)) = false := by decide)
    (he : starEach (e :: es) X.env = (false, eval e X.env) :: starEach es X.env := by rfl) (hpl : (backTo pos (starEach es X.env)).any (·.1) = false := by rfl) :
    PE X (.Call (.Name x p) (e :: es) [] pos) (tMakeS C sp E t) := by
  obtain ⟨f, fd, F, M, hm, hb⟩ := h
  refine ⟨fun pins s σ H Q I h => ?_⟩
  refine wpAny_Call_Name_kw (ld_glob I hg hm ?_ hdb)
  refine PySem.W.callWith_K (h₀ := X.base) I.ok.mod.kin M.kp (thn (ha.run pos pins s σ H _ I h) fun us s1 ⟨vs, H1, I1, r, q⟩ => ⟨I1.kIn, ?_⟩) he hpl
  exact run_makeS M F (hr.mono hj) hb (hx σ) I1 r q
/-- o.m(..) -/
def tMethS (C : Addr) (m : Str) (sp : Sp) (E : St → XK) (ta : TE) (t : TA) : TE := fun σ H Q => ta σ H fun x H1 => ∃ a dx fs, x = .ref a ∧ H1 a = some (.ins C dx fs) ∧ fs.lookup m = none ∧
  t σ H1 fun vs H2 => sp (x :: vs) H2 Q (E σ)
theorem pe_hm {pl : Sem Bool} (h : HasM X.prog X.w X.K X.mg X.base C m k ps sp) (c : Cls X.K C) (hr : Room j X.A) (hx : ∀ σ, PassesAt (L2.CX X.prog X.w) X σ (E σ)) (ho : PE X o ta) (ha : PA X (e :: es) t) (hj : k ≤ j := by decide)
    (hst : starEach (e :: es) X.env = (false, eval e X.env) :: starEach es X.env := by rfl) (hpl : (backTo pos (starEach es X.env)).any (·.1) = false := by rfl)
    (ht : eval (.Call (.Attribute o m apos) (e :: es) [] pos) X.env = (do
      let ov ← eval o X.env
      standAt apos.atName
      let (f, first) ← holding [ov] (getMethod ov m pl)
      callWith pos f first (backTo pos (starEach (e :: es) X.env)) (backToKw pos (keywordEach [] X.env))) := by rfl) :
    PE X (.Call (.Attribute o m apos) (e :: es) [] pos) (tMethS C m sp E ta t) := by
  obtain ⟨f, fd, F, hm, hb⟩ := h
  refine ⟨fun pins s σ H Q I h => ?_⟩
  refine PySem.W.methodCall_KW (pl := pl) (thn (ho.run pins s σ H _ I h) fun u s1 ⟨x, H1, I1, rx, a, dx, fs, ex, ea, l, q⟩ => ?_) ht
  subst ex
  obtain rfl : u = Value.ref a := rx
  refine getmeth_ok I1 ea c hm l ?_
  refine PySem.W.callWith_K (first := [.ref a]) (h₀ := X.base) I.ok.mod.kin hm.kp (thn (ha.run pos pins s1 σ H1 _ I1 q) fun us s2 ⟨vs, H2, I2, r, q2⟩ => ⟨I2.kIn, ?_⟩) hst hpl
  exact run_fnS (us := .ref a :: us) (vs := .ref a :: vs) F (hr.mono hj) hb (hx σ) I2 (.cons rfl r) q2
theorem pe_hm0 {pl : Sem Bool} (h : HasM X.prog X.w X.K X.mg X.base C m k ps sp) (c : Cls X.K C) (hr : Room j X.A) (hx : ∀ σ, PassesAt (L2.CX X.prog X.w) X σ (E σ)) (ho : PE X o ta) (hj : k ≤ j := by decide)
    (ht : eval (.Call (.Attribute o m apos) [] [] pos) X.env = (do
      let ov ← eval o X.env
      standAt apos.atName
      let (f, first) ← holding [ov] (getMethod ov m pl)
      callWith pos f first (backTo pos (starEach [] X.env)) (backToKw pos (keywordEach [] X.env))) := by rfl) :
    PE X (.Call (.Attribute o m apos) [] [] pos) (tMethS C m sp E ta tNil) := by
  obtain ⟨f, fd, F, hm, hb⟩ := h
  refine ⟨fun pins s σ H Q I h => ?_⟩
  refine PySem.W.methodCall_KW (pl := pl) (thn (ho.run pins s σ H _ I h) fun u s1 ⟨x, H1, I1, rx, a, dx, fs, ex, ea, l, q⟩ => ?_) ht
  subst ex
  obtain rfl : u = Value.ref a := rx
  refine getmeth_ok I1 ea c hm l ?_
  exact PySem.W.callWith_K0 (first := [.ref a]) I1.kIn hm.kp (run_fnS (us := [.ref a]) (vs := [.ref a]) F (hr.mono hj) hb (hx σ) I1 (.cons rfl .nil) q)
end

/-! ### numbers of any size -/
/-- // by what is not 0, below 2 ^ 9000 in size -/
def CDivN9 (_ j : Int) : Prop := j ≠ 0 ∧ j.natAbs.log2 < 9000
section
variable {X : Cx}
theorem op_fdivV : OpR X (binaryOp .FloorDiv) (rI CDivN9 fun i j => .int (i.fdiv j)) := opI fun i j _ _ _ _ _ hc q =>
  floordiv_int hc.1 q (.inl (PyProof.noPylong_of_log2 hc.2))
end

/-! ### steps that walk a reading -/
section
variable {σ σ' : St} {H : Hp} {v x y : V} {i j : Int} {n : Nat} {b : Bool} {ta tb te : TE} {t u : TT} {ts us : TS} {r : R2} {D : Ends} {Q : VK} {QB : Bool → Hp → Prop} {QL : List V → Hp → Prop} {tl : TA}
theorem w_var (h : σ[n]? = some (some v)) (q : Q v H) : tVar n σ H Q := ⟨v, h, q⟩
theorem w_c (q : Q v H) : tC v σ H Q := q
theorem w_op (q : ta σ H fun x H1 => tb σ H1 fun y H2 => r x y H2 Q) : tOp r ta tb σ H Q := q
theorem w_un {r : V → Hp → VK → Prop} (q : ta σ H fun x H1 => r x H1 Q) : tUn r ta σ H Q := q
theorem w_I0 {g : Int → Int → V} (q : Q (g i j) H) : rI0 g (.int i) (.int j) H Q := ⟨i, j, rfl, rfl, q⟩
theorem w_I {C : Int → Int → Prop} {g : Int → Int → V} (c : C i j) (q : Q (g i j) H) : rI C g (.int i) (.int j) H Q := ⟨i, j, rfl, rfl, c, q⟩
theorem w_U {g : Int → V} (q : Q (g i) H) : rU g (.int i) H Q := ⟨i, rfl, q⟩
theorem w_eq (h : scal x y = true) (q : Q (.bl (decide (x = y))) H) : rEq x y H Q := ⟨h, q⟩
theorem w_ne (h : scal x y = true) (q : Q (.bl (!decide (x = y))) H) : rNe x y H Q := ⟨h, q⟩
theorem w_test (q : te σ H fun x H' => ∃ k, x = .bl k ∧ QB k H') : tTest te σ H QB := q
theorem w_B (q : te σ H fun x H' => ∃ k, x = .bl k ∧ QB k H') : tB te σ H QB := q
theorem w_bl (q : QB b H) : ∃ k, V.bl b = .bl k ∧ QB k H := ⟨b, rfl, q⟩
theorem w_and (q : t σ H fun c H1 => if c = true then u σ H1 QB else QB false H1) : tAnd t u σ H QB := q
theorem w_or (q : t σ H fun c H1 => if c = true then QB true H1 else u σ H1 QB) : tOr t u σ H QB := q
theorem w_not (q : t σ H fun c H1 => QB (!c) H1) : tNot t σ H QB := q
theorem w_andV (q : ta σ H fun x H1 => ∃ c, x = .bl c ∧ if c = true then tb σ H1 Q else Q (.bl false) H1) : tAndV ta tb σ H Q := q
theorem w_orV (q : ta σ H fun x H1 => ∃ c, x = .bl c ∧ if c = true then Q (.bl true) H1 else tb σ H1 Q) : tOrV ta tb σ H Q := q
theorem w_notV (q : ta σ H fun x H1 => ∃ c, x = .bl c ∧ Q (.bl (!c)) H1) : tNotV ta σ H Q := q
theorem w_blV {p : Bool → Prop} (q : p b) : ∃ c, V.bl b = .bl c ∧ p c := ⟨b, rfl, q⟩
theorem w_seq {nx bk ct : L2.St → Hp → Prop} {rt : VK} (q : ts ⟨us ⟨nx, rt, bk, ct⟩, rt, bk, ct⟩ σ H) : tSeq ts us ⟨nx, rt, bk, ct⟩ σ H := q
theorem w_next {nx bk ct : L2.St → Hp → Prop} {rt : VK} (q : nx σ H) : tNext ⟨nx, rt, bk, ct⟩ σ H := q
theorem w_asg {g : TG} {nx bk ct : L2.St → Hp → Prop} {rt : VK} (q : te σ H fun x H1 => g x σ H1 nx) : tAsg te g ⟨nx, rt, bk, ct⟩ σ H := q
theorem w_drop {nx bk ct : L2.St → Hp → Prop} {rt : VK} (q : te σ H fun _ H1 => nx σ H1) : tDrop te ⟨nx, rt, bk, ct⟩ σ H := q
theorem w_ret {nx bk ct : L2.St → Hp → Prop} {rt : VK} (q : te σ H rt) : tRet te ⟨nx, rt, bk, ct⟩ σ H := q
theorem w_if {c : TT} (q : c σ H fun b H1 => if b = true then ts D σ H1 else us D σ H1) : tIfS c ts us D σ H := q
theorem w_name {N : St → Hp → Prop} (h : σ.set n (some v) = σ') (q : N σ' H) : gName n v σ H N := by rw [← h] at q; exact q
theorem w_nil (q : QL [] H) : tNil σ H QL := q
theorem w_cons (q : te σ H fun x H1 => tl σ H1 fun xs H2 => QL (x :: xs) H2) : tCons te tl σ H QL := q
theorem w_T {A B : Prop} {c : Bool} (h : c = true) (q : A) : if c = true then A else B := by rw [h]; exact iteT q
theorem w_F {A B : Prop} {c : Bool} (h : c = false) (q : B) : if c = true then A else B := by rw [h]; exact iteF q
theorem w_ite {c A B : Prop} [Decidable c] (h1 : c → A) (h2 : ¬ c → B) : if decide c = true then A else B := by
  by_cases h : c
  · rw [decide_eq_true h]; exact iteT (h1 h)
  · rw [decide_eq_false h]; exact iteF (h2 h)
theorem w_call {sp : Sp} {E : St → XK} (q : tl σ H fun vs H1 => sp vs H1 Q (E σ)) : tCallS sp E tl σ H Q := q
theorem w_cb {r : List V → Hp → VK → Prop} (q : tl σ H fun vs H1 => r vs H1 Q) : tCB r tl σ H Q := q
theorem set0 {a0 : Option V} {l : St} : (a0 :: l).set 0 (some v) = some v :: l := rfl
theorem set1 {a0 a1 : Option V} {l : St} : (a0 :: a1 :: l).set 1 (some v) = a0 :: some v :: l := rfl
theorem set2 {a0 a1 a2 : Option V} {l : St} : (a0 :: a1 :: a2 :: l).set 2 (some v) = a0 :: a1 :: some v :: l := rfl
theorem set3 {a0 a1 a2 a3 : Option V} {l : St} : (a0 :: a1 :: a2 :: a3 :: l).set 3 (some v) = a0 :: a1 :: a2 :: some v :: l := rfl
theorem set4 {a0 a1 a2 a3 a4 : Option V} {l : St} : (a0 :: a1 :: a2 :: a3 :: a4 :: l).set 4 (some v) = a0 :: a1 :: a2 :: a3 :: some v :: l := rfl
theorem set5 {a0 a1 a2 a3 a4 a5 : Option V} {l : St} : (a0 :: a1 :: a2 :: a3 :: a4 :: a5 :: l).set 5 (some v) = a0 :: a1 :: a2 :: a3 :: a4 :: some v :: l := rfl
theorem set6 {a0 a1 a2 a3 a4 a5 a6 : Option V} {l : St} : (a0 :: a1 :: a2 :: a3 :: a4 :: a5 :: a6 :: l).set 6 (some v) = a0 :: a1 :: a2 :: a3 :: a4 :: a5 :: some v :: l := rfl
theorem set7 {a0 a1 a2 a3 a4 a5 a6 a7 : Option V} {l : St} : (a0 :: a1 :: a2 :: a3 :: a4 :: a5 :: a6 :: a7 :: l).set 7 (some v) = a0 :: a1 :: a2 :: a3 :: a4 :: a5 :: a6 :: some v :: l := rfl
theorem set8 {a0 a1 a2 a3 a4 a5 a6 a7 a8 : Option V} {l : St} : (a0 :: a1 :: a2 :: a3 :: a4 :: a5 :: a6 :: a7 :: a8 :: l).set 8 (some v) = a0 :: a1 :: a2 :: a3 :: a4 :: a5 :: a6 :: a7 :: some v :: l := rfl
theorem set9 {a0 a1 a2 a3 a4 a5 a6 a7 a8 a9 : Option V} {l : St} : (a0 :: a1 :: a2 :: a3 :: a4 :: a5 :: a6 :: a7 :: a8 :: a9 :: l).set 9 (some v) = a0 :: a1 :: a2 :: a3 :: a4 :: a5 :: a6 :: a7 :: a8 :: some v :: l := rfl
theorem set10 {a0 a1 a2 a3 a4 a5 a6 a7 a8 a9 a10 : Option V} {l : St} : (a0 :: a1 :: a2 :: a3 :: a4 :: a5 :: a6 :: a7 :: a8 :: a9 :: a10 :: l).set 10 (some v) = a0 :: a1 :: a2 :: a3 :: a4 :: a5 :: a6 :: a7 :: a8 :: a9 :: some v :: l := rfl
theorem set11 {a0 a1 a2 a3 a4 a5 a6 a7 a8 a9 a10 a11 : Option V} {l : St} : (a0 :: a1 :: a2 :: a3 :: a4 :: a5 :: a6 :: a7 :: a8 :: a9 :: a10 :: a11 :: l).set 11 (some v) = a0 :: a1 :: a2 :: a3 :: a4 :: a5 :: a6 :: a7 :: a8 :: a9 :: a10 :: some v :: l := rfl
theorem set12 {a0 a1 a2 a3 a4 a5 a6 a7 a8 a9 a10 a11 a12 : Option V} {l : St} : (a0 :: a1 :: a2 :: a3 :: a4 :: a5 :: a6 :: a7 :: a8 :: a9 :: a10 :: a11 :: a12 :: l).set 12 (some v) = a0 :: a1 :: a2 :: a3 :: a4 :: a5 :: a6 :: a7 :: a8 :: a9 :: a10 :: a11 :: some v :: l := rfl
theorem set13 {a0 a1 a2 a3 a4 a5 a6 a7 a8 a9 a10 a11 a12 a13 : Option V} {l : St} : (a0 :: a1 :: a2 :: a3 :: a4 :: a5 :: a6 :: a7 :: a8 :: a9 :: a10 :: a11 :: a12 :: a13 :: l).set 13 (some v) = a0 :: a1 :: a2 :: a3 :: a4 :: a5 :: a6 :: a7 :: a8 :: a9 :: a10 :: a11 :: a12 :: some v :: l := rfl
theorem set14 {a0 a1 a2 a3 a4 a5 a6 a7 a8 a9 a10 a11 a12 a13 a14 : Option V} {l : St} : (a0 :: a1 :: a2 :: a3 :: a4 :: a5 :: a6 :: a7 :: a8 :: a9 :: a10 :: a11 :: a12 :: a13 :: a14 :: l).set 14 (some v) = a0 :: a1 :: a2 :: a3 :: a4 :: a5 :: a6 :: a7 :: a8 :: a9 :: a10 :: a11 :: a12 :: a13 :: some v :: l := rfl
theorem set15 {a0 a1 a2 a3 a4 a5 a6 a7 a8 a9 a10 a11 a12 a13 a14 a15 : Option V} {l : St} : (a0 :: a1 :: a2 :: a3 :: a4 :: a5 :: a6 :: a7 :: a8 :: a9 :: a10 :: a11 :: a12 :: a13 :: a14 :: a15 :: l).set 15 (some v) = a0 :: a1 :: a2 :: a3 :: a4 :: a5 :: a6 :: a7 :: a8 :: a9 :: a10 :: a11 :: a12 :: a13 :: a14 :: some v :: l := rfl
theorem set16 {a0 a1 a2 a3 a4 a5 a6 a7 a8 a9 a10 a11 a12 a13 a14 a15 a16 : Option V} {l : St} : (a0 :: a1 :: a2 :: a3 :: a4 :: a5 :: a6 :: a7 :: a8 :: a9 :: a10 :: a11 :: a12 :: a13 :: a14 :: a15 :: a16 :: l).set 16 (some v) = a0 :: a1 :: a2 :: a3 :: a4 :: a5 :: a6 :: a7 :: a8 :: a9 :: a10 :: a11 :: a12 :: a13 :: a14 :: a15 :: some v :: l := rfl
theorem set17 {a0 a1 a2 a3 a4 a5 a6 a7 a8 a9 a10 a11 a12 a13 a14 a15 a16 a17 : Option V} {l : St} : (a0 :: a1 :: a2 :: a3 :: a4 :: a5 :: a6 :: a7 :: a8 :: a9 :: a10 :: a11 :: a12 :: a13 :: a14 :: a15 :: a16 :: a17 :: l).set 17 (some v) = a0 :: a1 :: a2 :: a3 :: a4 :: a5 :: a6 :: a7 :: a8 :: a9 :: a10 :: a11 :: a12 :: a13 :: a14 :: a15 :: a16 :: some v :: l := rfl
theorem set18 {a0 a1 a2 a3 a4 a5 a6 a7 a8 a9 a10 a11 a12 a13 a14 a15 a16 a17 a18 : Option V} {l : St} : (a0 :: a1 :: a2 :: a3 :: a4 :: a5 :: a6 :: a7 :: a8 :: a9 :: a10 :: a11 :: a12 :: a13 :: a14 :: a15 :: a16 :: a17 :: a18 :: l).set 18 (some v) = a0 :: a1 :: a2 :: a3 :: a4 :: a5 :: a6 :: a7 :: a8 :: a9 :: a10 :: a11 :: a12 :: a13 :: a14 :: a15 :: a16 :: a17 :: some v :: l := rfl
theorem set19 {a0 a1 a2 a3 a4 a5 a6 a7 a8 a9 a10 a11 a12 a13 a14 a15 a16 a17 a18 a19 : Option V} {l : St} : (a0 :: a1 :: a2 :: a3 :: a4 :: a5 :: a6 :: a7 :: a8 :: a9 :: a10 :: a11 :: a12 :: a13 :: a14 :: a15 :: a16 :: a17 :: a18 :: a19 :: l).set 19 (some v) = a0 :: a1 :: a2 :: a3 :: a4 :: a5 :: a6 :: a7 :: a8 :: a9 :: a10 :: a11 :: a12 :: a13 :: a14 :: a15 :: a16 :: a17 :: a18 :: some v :: l := rfl
theorem set20 {a0 a1 a2 a3 a4 a5 a6 a7 a8 a9 a10 a11 a12 a13 a14 a15 a16 a17 a18 a19 a20 : Option V} {l : St} : (a0 :: a1 :: a2 :: a3 :: a4 :: a5 :: a6 :: a7 :: a8 :: a9 :: a10 :: a11 :: a12 :: a13 :: a14 :: a15 :: a16 :: a17 :: a18 :: a19 :: a20 :: l).set 20 (some v) = a0 :: a1 :: a2 :: a3 :: a4 :: a5 :: a6 :: a7 :: a8 :: a9 :: a10 :: a11 :: a12 :: a13 :: a14 :: a15 :: a16 :: a17 :: a18 :: a19 :: some v :: l := rfl
theorem set21 {a0 a1 a2 a3 a4 a5 a6 a7 a8 a9 a10 a11 a12 a13 a14 a15 a16 a17 a18 a19 a20 a21 : Option V} {l : St} : (a0 :: a1 :: a2 :: a3 :: a4 :: a5 :: a6 :: a7 :: a8 :: a9 :: a10 :: a11 :: a12 :: a13 :: a14 :: a15 :: a16 :: a17 :: a18 :: a19 :: a20 :: a21 :: l).set 21 (some v) = a0 :: a1 :: a2 :: a3 :: a4 :: a5 :: a6 :: a7 :: a8 :: a9 :: a10 :: a11 :: a12 :: a13 :: a14 :: a15 :: a16 :: a17 :: a18 :: a19 :: a20 :: some v :: l := rfl
theorem set22 {a0 a1 a2 a3 a4 a5 a6 a7 a8 a9 a10 a11 a12 a13 a14 a15 a16 a17 a18 a19 a20 a21 a22 : Option V} {l : St} : (a0 :: a1 :: a2 :: a3 :: a4 :: a5 :: a6 :: a7 :: a8 :: a9 :: a10 :: a11 :: a12 :: a13 :: a14 :: a15 :: a16 :: a17 :: a18 :: a19 :: a20 :: a21 :: a22 :: l).set 22 (some v) = a0 :: a1 :: a2 :: a3 :: a4 :: a5 :: a6 :: a7 :: a8 :: a9 :: a10 :: a11 :: a12 :: a13 :: a14 :: a15 :: a16 :: a17 :: a18 :: a19 :: a20 :: a21 :: some v :: l := rfl
theorem set23 {a0 a1 a2 a3 a4 a5 a6 a7 a8 a9 a10 a11 a12 a13 a14 a15 a16 a17 a18 a19 a20 a21 a22 a23 : Option V} {l : St} : (a0 :: a1 :: a2 :: a3 :: a4 :: a5 :: a6 :: a7 :: a8 :: a9 :: a10 :: a11 :: a12 :: a13 :: a14 :: a15 :: a16 :: a17 :: a18 :: a19 :: a20 :: a21 :: a22 :: a23 :: l).set 23 (some v) = a0 :: a1 :: a2 :: a3 :: a4 :: a5 :: a6 :: a7 :: a8 :: a9 :: a10 :: a11 :: a12 :: a13 :: a14 :: a15 :: a16 :: a17 :: a18 :: a19 :: a20 :: a21 :: a22 :: some v :: l := rfl
end
end L2.My

/-! W1: own ==, reflected ==, own minus in front; gcd of three; raising an own error; is of bools. -/
namespace L2.My
open PySem PySem.Spec PyProof.Rows PySem.SeqAt
open AutoSeq1 (wpAny_loadPart')

/-! ### the type of a value that is known -/
section
variable {X : Cx} {pins : List (Addr × Obj)} {σ : St} {H : Hp} {s : Shared} {y : V} {u t : Value}
theorem looks_ty (I : Inv X pins σ H s) (ru : RelV y u) (ty : TyX X.K H y t) : PySem.W.Looks (model X.prog X.w) s.heap (typeOf u) t := by
  obtain ⟨P, Z, p, _⟩ := kit_of I ru ty
  exact Z.ty _ _ I.kIn p
end

/-! ### x op y by x's own def -/
section
variable {X : Cx} {C : Addr} {k j : Nat} {ps : List Str} {sp : Sp} {E : XK} {m : Str}
def rOwnC (K : PySem.W.Frag) (C : Addr) (sp : Sp) (E : XK) : R2 := fun x y H Q => ∃ a dx fs t, x = .ref a ∧ H a = some (.ins C dx fs) ∧ TyX K H y t ∧ PySem.W.notFirst K C t = true ∧ sp [x, y] H Q E
theorem op_ownC {op : CmpOp} (hop : ∀ a b, compareOp op a b = richCompare op a b) (h : HasM X.prog X.w X.K X.mg X.base C (cmpInfo op).2.1 k ps sp) (hr : Room j X.A) (hx : Passes (L2.CX X.prog X.w) X E) (hj : k ≤ j := by decide) :
    OpR X (compareOp op) (rOwnC X.K C sp E) := by
  obtain ⟨f, fd, Fo, hm, hb⟩ := h
  intro pins s σ H x y v u Q I rx ry hh
  obtain ⟨a, dx, fs, t, rfl, ha, ty, hn, q⟩ := hh
  cases (show v = Value.ref a from rx)
  obtain ⟨mA, O, _⟩ := ins_get I.hok ha
  obtain ⟨od, J, _⟩ := O.look
  have hb' := looks_ty I ry ty
  obtain ⟨m, hF⟩ := I.fr
  rw [hop]
  refine PySem.W.cmp_K (op := op) (tb := t) hr.units0 hF I.ok.mod.kin J hb' hn hm.at_ hm.fn ?_
  refine wpAny_mono (run_fn Fo (hr.mono hj) hb .nil hx I (.cons rx (.cons ry .nil)) q) (fun w s' z => ?_) fun _ _ x => x
  obtain ⟨z', H', I', rz, qz⟩ := z
  exact SlX.cmpback rz ⟨z', H', I', rz, qz⟩
theorem op_eqC (h : HasM X.prog X.w X.K X.mg X.base C "__eq__" k ps sp) (hr : Room j X.A) (hx : Passes (L2.CX X.prog X.w) X E) (hj : k ≤ j := by decide) :
    OpR X (compareOp .Eq) (rOwnC X.K C sp E) := op_ownC (fun _ _ => rfl) h hr hx hj

/-! ### an int or a bool == an instance: the instance's own def, turned about -/
theorem int_eq_declines_ins_int (b : Int) (u : Tok) (l C dx : Addr) :
    Meets (Builtin.«int.__eq__» ⟨[.int b u, .ref l], []⟩) (fun _ R s => s.heap.get? l = some (PySem.W.instObj C dx) ∧ R (.ok (.ret .notImplemented)) s) :=
  .of_wp fun prog w A R s h => by obtain ⟨hp, g, d, tk, os⟩ := s; obtain ⟨hl, h⟩ := h; wp_walk using wpAny_loadPart' hl, wpAny_load hl; exact ⟨_, rfl, h⟩
theorem int_eq_declines_ins_bool (b : Bool) (l C dx : Addr) :
    Meets (Builtin.«int.__eq__» ⟨[.bool b, .ref l], []⟩) (fun _ R s => s.heap.get? l = some (PySem.W.instObj C dx) ∧ R (.ok (.ret .notImplemented)) s) :=
  .of_wp fun prog w A R s h => by obtain ⟨hp, g, d, tk, os⟩ := s; obtain ⟨hl, h⟩ := h; wp_walk using wpAny_loadPart' hl, wpAny_load hl; exact ⟨_, rfl, h⟩

theorem rc_refl {prog : Program} {w : World} {A : Around} {E : Value → Shared → Prop} {s : Shared} {K : PySem.W.Frag} {x C f : Addr} {ox : Obj} {od : Option Obj} {b : Value} {T : String} {Q : Value → Shared → Prop} (hu : A.units < cLine) (X : K.In s.heap) (I : PySem.W.InstAt s.heap x ox C od)
    (hb : s.TypeIs b T) (hsub : PySem.W.subIn K (.ref C) (.type T) = some false) (hs : PySem.W.findIn K (.ref C) "__eq__" = some (some (.ref f))) (hf : PySem.W.isFn K (.ref f) = true)
    (hd : ∀ Q' : Option Value → Shared → Prop, Q' none s → wpAny (model prog w) A (tryCompare b "__eq__" (.ref x)) Q' E s)
    (h : wpAny (model prog w) A (call (.ref f) [.ref x, b]) (PySem.W.CmpBack Q) E s) : wpAny (model prog w) A (richCompare .Eq b (.ref x)) Q E s := by
  have one : wpAny (model prog w) A (tryCompare (.ref x) "__eq__" b) (fun r s' => ∃ v, r = some v ∧ Q v s') E s := by
    unfold tryCompare
    refine wpAny_bind (PySem.W.ifBound_K X I hs hf (wpAny_mono h (fun v s' hv => ?_) fun _ _ e => e))
    cases v <;> first | exact hv.elim | exact wpAny_pure ⟨_, rfl, hv⟩
  have ot : oneThing? .Eq b (.ref x) = none := hb.oneThing_none _ _
  have hne : (Value.type T != Value.ref C) = true := rfl
  unfold richCompare
  rw [ot]
  refine wpAny_holding (wpAny_bind (wpAny_cRoomFor hu ?_))
  refine wpAny_bind (wpAny_typeOf hb (wpAny_bind (I.type.here ?_)))
  simp only [hne, if_true]
  refine wpAny_bind ((PySem.W.looks_subIn X hsub).here ?_)
  simp only [cmpInfo, Bool.false_eq_true, if_false, Bool.not_false, if_true]
  refine wpAny_bind (hd _ ?_)
  refine wpAny_bind (wpAny_mono one (fun r s' z => ?_) fun _ _ e => e)
  obtain ⟨v, rfl, hq⟩ := z
  exact wpAny_pure hq

def rOwnR (K : PySem.W.Frag) (C : Addr) (sp : Sp) (E : XK) : R2 := fun x y H Q => ∃ a dx fs, y = .ref a ∧ H a = some (.ins C dx fs) ∧
  ((∃ i, x = .int i) ∧ PySem.W.subIn K (.ref C) (.type "int") = some false ∨ (∃ b, x = .bl b) ∧ PySem.W.subIn K (.ref C) (.type "bool") = some false) ∧ sp [y, x] H Q E
theorem op_eqR (h : HasM X.prog X.w X.K X.mg X.base C "__eq__" k ps sp) (hr : Room j X.A) (hx : Passes (L2.CX X.prog X.w) X E) (hj : k ≤ j := by decide) :
    OpR X (compareOp .Eq) (rOwnR X.K C sp E) := by
  obtain ⟨f, fd, Fo, hm, hb⟩ := h
  intro pins s σ H x y v u Q I rx ry hh
  obtain ⟨a, dx, fs, rfl, ha, hxx, q⟩ := hh
  cases (show u = Value.ref a from ry)
  obtain ⟨mA, O, _⟩ := ins_get I.hok ha
  obtain ⟨od, J, _⟩ := O.look
  have call_ : wpAny (model X.prog X.w) X.A (call (.ref f) [.ref a, v]) (PySem.W.CmpBack (EP X pins σ Q)) X.xe s := by
    refine wpAny_mono (run_fn Fo (hr.mono hj) hb .nil hx I (.cons ry (.cons rx .nil)) q) (fun w s' z => ?_) fun _ _ x => x
    obtain ⟨z', H', I', rz, qz⟩ := z
    exact SlX.cmpback rz ⟨z', H', I', rz, qz⟩
  rcases hxx with ⟨⟨i, rfl⟩, hsub⟩ | ⟨⟨b, rfl⟩, hsub⟩
  · obtain ⟨t, rfl⟩ := (show ∃ t, v = Value.int i t from rx)
    exact rc_refl hr.units0 I.kIn J (typeIs_int s i t) hsub hm.at_ hm.fn (fun Q' hq => wpAny_tryCompare_declines (typeIs_int s i t) F.slot_int_eq
      (call_meets F.slot_int_eq (typeIs_int s i t) F.entry_int_eq (F.args_int_eq_2 _ _) (int_eq_declines_ins_int i t a C dx) ⟨O.obj, rfl, hq⟩)) call_
  · cases (show v = Value.bool b from rx)
    exact rc_refl hr.units0 I.kIn J (show s.TypeIs (.bool b) "bool" from rfl) hsub hm.at_ hm.fn (fun Q' hq => wpAny_tryCompare_declines (show s.TypeIs (.bool b) "bool" from rfl) F.slot_bool_eq
      (call_meets F.slot_bool_eq rfl F.entry_int_eq (F.args_int_eq_2 _ _) (int_eq_declines_ins_bool b a C dx) ⟨O.obj, rfl, hq⟩)) call_

/-! ### -x by x's own def -/
def rOwnU (C : Addr) (sp : Sp) (E : XK) : V → Hp → VK → Prop := fun x H Q => ∃ a dx fs, x = .ref a ∧ H a = some (.ins C dx fs) ∧ sp [x] H Q E
theorem un_own (h : HasM X.prog X.w X.K X.mg X.base C "__neg__" k ps sp) (hr : Room j X.A) (hx : Passes (L2.CX X.prog X.w) X E) (hj : k ≤ j := by decide) :
    UnR X (unaryOp .USub) (rOwnU C sp E) := by
  obtain ⟨f, fd, Fo, hm, hb⟩ := h
  intro pins s σ H x v Q I rx hh
  obtain ⟨a, dx, fs, rfl, ha, q⟩ := hh
  cases (show v = Value.ref a from rx)
  obtain ⟨mA, O, _⟩ := ins_get I.hok ha
  obtain ⟨od, J, _⟩ := O.look
  obtain ⟨m, hF⟩ := I.fr
  exact PySem.W.ksp_neg hF I.ok.mod.kin J hm.at_ hm.fn (run_fn Fo (hr.mono hj) hb .nil hx I (.cons rx .nil) q)

/-! ### math.gcd of three -/
theorem args_gcd3 (a b c : Value) : argsOk "math.gcd" ⟨[a, b, c], []⟩ := by unfold argsOk; kernel_rfl
theorem mg_run_gcd3 (a : Int) (t : Tok) (b : Int) (u : Tok) (c : Int) (w : Tok) :
    Gives (Builtin.«math.gcd» ⟨[.int a t, .int b u, .int c w], []⟩) (.int ((((Nat.gcd 0 a.natAbs).gcd b.natAbs).gcd c.natAbs : Nat) : Int)) :=
  .of_wp fun M A E s Q h => by obtain ⟨hp, g, d, tk, os⟩ := s; wp_walk; exact ⟨_, rfl, h⟩
def rGcd3 : List V → Hp → VK → Prop := fun vs H Q => ∃ a b c : Int, vs = [.int a, .int b, .int c] ∧ Q (.int (((a.natAbs.gcd b.natAbs).gcd c.natAbs : Nat) : Int)) H
theorem cr_gcd3 : CallR X (.builtin "math.gcd") rGcd3 := by
  intro pins s σ H vs us Q I r h
  obtain ⟨a, b, c, rfl, q⟩ := h
  cases r with
  | cons ra r =>
    cases r with
    | cons rb r =>
      cases r with
      | cons rc r =>
        cases r
        obtain ⟨t, rfl⟩ := ra
        obtain ⟨u, rfl⟩ := rb
        obtain ⟨w, rfl⟩ := rc
        have g := mg_run_gcd3 a t b u c w
        rw [Nat.gcd_zero_left] at g
        exact call_function_meets PySem.W.MGF.kind_gcd PySem.W.MGF.plain_gcd PySem.W.MGF.entry_gcd (args_gcd3 _ _ _) g.meets ⟨.int _, H, I.tok _, ⟨_, rfl⟩, q⟩
end
end L2.My

/-! W2: where defs stand, what is known of things, Roots. -/
namespace L2.My
open PySem PySem.Spec PyProof.Rows
/-! ### where a def of the text stands behind the top -/
def AtF (K : PySem.W.Frag) (mg : Str → Option Value) (x qual : Str) (st : Stmt) (ps : List Str) : Prop := ∃ f fd, Fun K x qual st f fd ∧ Binds K fd ps [] ∧ mg x = some (.ref f)
def AtM (K : PySem.W.Frag) (C : Addr) (m qual : Str) (st : Stmt) (ps : List Str) : Prop := ∃ f fd, Fun K m qual st f fd ∧ Binds K fd ps [] ∧ Meth K C m f
def AtC (K : PySem.W.Frag) (mg : Str → Option Value) (x : Str) (C : Addr) (qual : Str) (st : Stmt) (ps : List Str) : Prop := ∃ f fd, Fun K "__init__" qual st f fd ∧ Binds K fd ps [] ∧ Mk K C f ∧ mg x = some (.ref C)
def AtX (K : PySem.W.Frag) (mg : Str → Option Value) (x : Str) (C : Addr) (qual : Str) (st : Stmt) (ps : List Str) : Prop := ∃ f fd, Fun K "__init__" qual st f fd ∧ Binds K fd ps [] ∧ mg x = some (.ref C) ∧
  PySem.W.findIn K (.ref C) "__init__" = some (some (.ref f)) ∧ PySem.W.typeIn K (.ref f) = some (.type "function")
section
variable {P : Program} {w : World} {K : PySem.W.Frag} {mg : Str → Option Value} {base : Heap} {x m qual : Str} {st : Stmt} {N ps : List Str} {k : Nat} {sp : Sp} {C : Addr}
abbrev BodyOk (P : Program) (w : World) (K : PySem.W.Frag) (mg : Str → Option Value) (base : Heap) (N : List Str) (qual : Str) (st : Stmt) (k : Nat) (sp : Sp) (f : Addr) : Prop :=
  ∀ (cdv : Value) (A : Around) (outer : List Env) (s : Shared) (H : Hp) (vs : List V) (Q : VK) (E : XK), Room k (A.deeper (envOfC qual (defScope st) s.heap.objs.size f cdv)) → sp vs H Q E →
    ∃ t, PSs (cxOf (L2.CX P w) P w K mg base N qual (defScope st) f cdv A outer s H E) (defBody st) t ∧ t { nx := fun _ H' => Q .non H', rt := Q } (start N vs) H
theorem AtF.ok (D : AtF K mg x qual st ps) (S : FnScope N ps (defScope st)) (len : ∀ vs H Q E, sp vs H Q E → vs.length = ps.length) (h : ∀ {f : Addr}, BodyOk P w K mg base N qual st k sp f) : Has P w K mg base x (k + 1) ps sp := by
  obtain ⟨f, fd, Fo, b, g⟩ := D
  exact ⟨f, fd, Fo.okX S len h, g, Fo.kp, b⟩
theorem AtM.ok (D : AtM K C m qual st ps) (S : FnScope N ps (defScope st)) (len : ∀ vs H Q E, sp vs H Q E → vs.length = ps.length) (h : ∀ {f : Addr}, BodyOk P w K mg base N qual st k sp f) : HasM P w K mg base C m (k + 1) ps sp := by
  obtain ⟨f, fd, Fo, b, g⟩ := D
  exact ⟨f, fd, Fo.okX S len h, g, b⟩
theorem AtC.ok (D : AtC K mg x C qual st ps) (S : FnScope N ps (defScope st)) (len : ∀ vs H Q E, sp vs H Q E → vs.length = ps.length) (h : ∀ {f : Addr}, BodyOk P w K mg base N qual st k sp f) : HasC P w K mg base x C (k + 1) ps sp := by
  obtain ⟨f, fd, Fo, b, g, h2⟩ := D
  exact ⟨f, fd, Fo.okX S len h, g, h2, b⟩
/-- an own error class that is made -/
def HasX (P : Program) (w : World) (K : PySem.W.Frag) (mg : Str → Option Value) (base : Heap) (x : Str) (C : Addr) (k : Nat) (ps : List Str) (sp : Sp) : Prop :=
  ∃ f fd, FnOk P w K mg base (L2.CX P w) k f fd ps sp ∧ mg x = some (.ref C) ∧ PySem.W.findIn K (.ref C) "__init__" = some (some (.ref f)) ∧ PySem.W.typeIn K (.ref f) = some (.type "function") ∧ Binds K fd ps []
theorem AtX.ok (D : AtX K mg x C qual st ps) (S : FnScope N ps (defScope st)) (len : ∀ vs H Q E, sp vs H Q E → vs.length = ps.length) (h : ∀ {f : Addr}, BodyOk P w K mg base N qual st k sp f) : HasX P w K mg base x C (k + 1) ps sp := by
  obtain ⟨f, fd, Fo, b, g, h2, h3⟩ := D
  exact ⟨f, fd, Fo.okX S len h, g, h2, h3, b⟩
end
/-- making an own error, to be raised -/
theorem pm_h {X : Cx} {x : Str} {C : Addr} {k j : Nat} {ps : List Str} {sp : Sp} {e : Expr} {es : List Expr} {ta : TA} {p pos : Pos} (T : OexC X.K C) (h : HasX X.prog X.w X.K X.mg X.base x C k ps sp) (hr : Room j X.A) (ha : PA X (e :: es) ta) (hj : k + 1 ≤ j := by decide) (hg : Gl X x := by rfl)
    (hdb : (x == ("__debug__" : Str)) = false := by decide) (he : starEach (e :: es) X.env = (false, eval e X.env) :: starEach es X.env := by rfl) (hpl : (backTo pos (starEach es X.env)).any (·.1) = false := by rfl) :
    PMk X (.Call (.Name x p) (e :: es) [] pos) (tMkO C sp [] ta) := by
  obtain ⟨f, fd, Fo, hm, iC, tI, hb⟩ := h
  exact pmk_oex T iC tI Fo (hr.mono hj) hb .nil passL hg hm ha hdb he hpl
/-! ### what is known of things -/
/-- what stands is as it was, but for the object at p -/
def SameX (p : Addr) (H H' : Hp) : Prop := ∀ b o, b ≠ p → H b = some o → H' b = some o
theorem Same.x {p : Addr} {H H' : Hp} (h : Same H H') : SameX p H H' := fun b o _ e => h b o e
theorem SameX.trans {p : Addr} {H H1 H2 : Hp} (a : SameX p H H1) (b : SameX p H1 H2) : SameX p H H2 := fun c o n e => b c o n (a c o n e)
theorem SameX.upd {p : Addr} {H H1 : Hp} {o : HO} (a : SameX p H H1) : SameX p H (upd H1 p o) := fun c u n e => by rw [upd_ne n]; exact a c u n e
theorem Same.new {H : Hp} {p : Addr} {o : HO} (h : H p = none) : Same H (upd H p o) := fun a u e => by rw [upd_ne (ne_of_none e h)]; exact e
def rootF (t r b : Int) : List (Str × V) := [("top", .int t), ("root", .int r), ("bottom", .int b)]
/-- a number as the package keeps it -/
def RootAt (c : Addr) (H : Hp) (v : V) (t r b : Int) : Prop := ∃ a dx, v = .ref a ∧ H a = some (.ins c dx (rootF t r b))
theorem RootAt.same {c : Addr} {H H' : Hp} {v : V} {t r b : Int} (h : RootAt c H v t r b) (s : Same H H') : RootAt c H' v t r b := by
  obtain ⟨a, dx, rfl, e⟩ := h
  exact ⟨a, dx, rfl, s _ _ e⟩
/-- a thing of a kind that is known -/
inductive Th (c : Addr) (H : Hp) : V → Prop
  | non : Th c H .non
  | bl (b : Bool) : Th c H (.bl b)
  | int (i : Int) : Th c H (.int i)
  | str (s : Str) : Th c H (.str s)
  | lst (a : Addr) (xs : List V) (e : H a = some (.lst xs)) : Th c H (.ref a)
  | tup (a : Addr) (xs : List V) (e : H a = some (.tup xs)) : Th c H (.ref a)
  | dK (a : Addr) (kvs : List (Key × V)) (e : H a = some (.dK kvs)) : Th c H (.ref a)
  | root (a dx : Addr) (t r b : Int) (e : H a = some (.ins c dx (rootF t r b))) : Th c H (.ref a)
theorem Th.same {c : Addr} {H H' : Hp} {v : V} (h : Th c H v) (s : Same H H') : Th c H' v := by
  cases h with
  | non => exact .non
  | bl b => exact .bl b
  | int i => exact .int i
  | str s => exact .str s
  | lst a xs e => exact .lst a xs (s _ _ e)
  | tup a xs e => exact .tup a xs (s _ _ e)
  | dK a xs e => exact .dK a xs (s _ _ e)
  | root a dx t r b e => exact .root a dx t r b (s _ _ e)
def isI : V → Bool
  | .int _ => true
  | _ => false
def isB : V → Bool
  | .bl _ => true
  | _ => false
def isC (c : Addr) (H : Hp) : V → Bool
  | .ref a => match H a with
    | some (.ins C _ _) => decide (C = c)
    | _ => false
  | _ => false
/-- what isinstance says of the kinds, for the class at C -/
structure KiT (K : PySem.W.Frag) (c : Addr) : Prop where
  ty : Cls K c
  ha : PySem.W.findIn K (.ref c) "__class__" = some (some (.builtin "object.__class__"))
  hn : PySem.W.specialIn K (.builtin "object.__class__") "__get__" = some (some (.builtin "getset_descriptor.__get__"))
  htk : PySem.W.takesIn K (.builtin "object.__class__") = some true
  hm : PySem.W.mroIn K c (.type "object") = some true
  i : PySem.W.kitOne K (.ref c) (.type "int") = some false
  b : PySem.W.kitOne K (.ref c) (.type "bool") = some false
  cc : PySem.W.kitOne K (.ref c) (.ref c) = some true
  k1 : PySem.W.kitOne K (.type "NoneType") (.ref c) = some false
  k2 : PySem.W.kitOne K (.type "bool") (.ref c) = some false
  k3 : PySem.W.kitOne K (.type "int") (.ref c) = some false
  k4 : PySem.W.kitOne K (.type "str") (.ref c) = some false
  k5 : PySem.W.kitOne K (.type "list") (.ref c) = some false
  k6 : PySem.W.kitOne K (.type "tuple") (.ref c) = some false
  k7 : PySem.W.kitOne K (.type "dict") (.ref c) = some false
  n1 : PySem.W.subIn K (.type "NoneType") (.ref c) = some false
  n2 : PySem.W.subIn K (.type "bool") (.ref c) = some false
  n3 : PySem.W.subIn K (.type "int") (.ref c) = some false
  n4 : PySem.W.subIn K (.type "str") (.ref c) = some false
  n5 : PySem.W.subIn K (.type "list") (.ref c) = some false
  n6 : PySem.W.subIn K (.type "tuple") (.ref c) = some false
  n7 : PySem.W.subIn K (.type "dict") (.ref c) = some false
  s1 : PySem.W.subIn K (.ref c) (.type "int") = some false
  s2 : PySem.W.subIn K (.ref c) (.type "bool") = some false
theorem Th.ty {K : PySem.W.Frag} {c : Addr} {H : Hp} {v : V} (h : Th c H v) (T : KiT K c) : ∃ t, TyX K H v t ∧ PySem.W.kitOne K t (.type "int") = some (isI v || isB v) ∧ PySem.W.kitOne K t (.type "bool") = some (isB v) ∧
    PySem.W.kitOne K t (.ref c) = some (isC c H v) ∧ PySem.W.notFirst K c t = true := by
  have nf : ∀ t, PySem.W.subIn K t (.ref c) = some false → PySem.W.notFirst K c t = true := fun t e => by
    unfold PySem.W.notFirst
    rw [e]
    simp
  have kb : ∀ (a b : String) (r : Bool), kitB a b = some r → PySem.W.kitOne K (.type a) (.type b) = some r := fun _ _ _ h => kit_ty h
  have ib : ∀ {a : Addr} {o : HO} (_ : H a = some o) (_ : ∀ C dx fs, o ≠ .ins C dx fs), isC c H (.ref a) = false := fun {a o} e n => by
    show (match H a with | some (.ins C _ _) => decide (C = c) | _ => false) = false
    rw [e]
    cases o <;> first | rfl | exact absurd rfl (n _ _ _)
  cases h with
  | non => exact ⟨_, .base .non, kb "NoneType" "int" false (by decide +kernel), kb "NoneType" "bool" false (by decide +kernel), T.k1, nf _ T.n1⟩
  | bl b => exact ⟨_, .base (.bl b), kb "bool" "int" true (by decide +kernel), kb "bool" "bool" true (by decide +kernel), T.k2, nf _ T.n2⟩
  | int i => exact ⟨_, .base (.int i), kb "int" "int" true (by decide +kernel), kb "int" "bool" false (by decide +kernel), T.k3, nf _ T.n3⟩
  | str s => exact ⟨_, .base (.str s), kb "str" "int" false (by decide +kernel), kb "str" "bool" false (by decide +kernel), T.k4, nf _ T.n4⟩
  | lst a xs e => exact ⟨_, .base (.lst e), kb "list" "int" false (by decide +kernel), kb "list" "bool" false (by decide +kernel), (by rw [ib e (by intros; intro q; cases q)]; exact T.k5), nf _ T.n5⟩
  | tup a xs e => exact ⟨_, .base (.tup e), kb "tuple" "int" false (by decide +kernel), kb "tuple" "bool" false (by decide +kernel), (by rw [ib e (by intros; intro q; cases q)]; exact T.k6), nf _ T.n6⟩
  | dK a xs e => exact ⟨_, .base (.dK e), kb "dict" "int" false (by decide +kernel), kb "dict" "bool" false (by decide +kernel), (by rw [ib e (by intros; intro q; cases q)]; exact T.k7), nf _ T.n7⟩
  | root a dx t r b e =>
    have ic : isC c H (.ref a) = true := by
      show (match H a with | some (.ins C _ _) => decide (C = c) | _ => false) = true
      rw [e]
      exact decide_eq_true rfl
    exact ⟨_, .base (.ins e T.ty T.ha T.hn T.htk T.hm), T.i, T.b, (by rw [ic]; exact T.cc), (by unfold PySem.W.notFirst; simp)⟩
theorem w_isi {K : PySem.W.Frag} {H : Hp} {x : V} {n : String} {t : Value} {b : Bool} {Q : VK} (ty : TyX K H x t) (k : PySem.W.kitOne K t (.type n) = some b) (q : Q (.bl b) H) : rIsi K [x, .ty n] H Q := ⟨x, .ty n, t, _, b, rfl, .ty n, ty, k, q⟩
theorem w_isiC {K : PySem.W.Frag} {H : Hp} {x : V} {c : Addr} {t : Value} {b : Bool} {Q : VK} (ty : TyX K H x t) (k : PySem.W.kitOne K t (.ref c) = some b) (q : Q (.bl b) H) : rIsi K [x, .ref c] H Q := ⟨x, .ref c, t, _, b, rfl, .own c, ty, k, q⟩

/-! ### more steps -/
section
variable {K : PySem.W.Frag} {σ : St} {H : Hp} {Q : VK} {te : TE} {tl : TA} {a : Addr} {xs : List V} {i : Int} {v : V}
theorem sz1000 {n : Nat} (h : n ≤ 1000) : n ≤ sizeLine := Nat.le_trans h (by decide)
theorem Same.upd_new {H H1 : Hp} {p : Addr} {o : HO} (s : Same H H1) (h : H1 p = none) : Same H (upd H1 p o) := s.trans (Same.new h)
/-- a new tuple, a new list: what is asked -/
def NewT (xs : List V) (H : Hp) (Q : VK) : Prop := xs.length ≤ sizeLine ∧ ∀ p, H p = none → Q (.ref p) (upd H p (.tup xs))
def NewL (xs : List V) (H : Hp) (Q : VK) : Prop := xs.length ≤ sizeLine ∧ ∀ p, H p = none → Q (.ref p) (upd H p (.lst xs))
theorem k_tup (hl : Nat.ble xs.length 1000 = true) (q : ∀ p H2, H p = none → Same H H2 → H2 p = some (.tup xs) → Q (.ref p) H2) : NewT xs H Q :=
  ⟨sz1000 (Nat.le_of_ble_eq_true hl), fun p hp => q p _ hp (Same.new hp) upd_same⟩
theorem k_lst (hl : Nat.ble xs.length 1000 = true) (q : ∀ p H2, H p = none → Same H H2 → H2 p = some (.lst xs) → Q (.ref p) H2) : NewL xs H Q :=
  ⟨sz1000 (Nat.le_of_ble_eq_true hl), fun p hp => q p _ hp (Same.new hp) upd_same⟩
theorem w_tup (q : tl σ H fun xs H1 => NewT xs H1 Q) : tTup tl σ H Q := q
theorem w_lst (q : tl σ H fun xs H1 => NewL xs H1 Q) : tLst tl σ H Q := q
theorem w_ixL (h : H a = some (.lst xs)) (e : atI xs i = some v) (q : Q v H) : rIx K (.ref a) (.int i) H Q := .inl ⟨a, xs, i, v, rfl, rfl, SqL.of h, e, q⟩
theorem w_ixT (h : H a = some (.tup xs)) (e : atI xs i = some v) (q : Q v H) : rIx K (.ref a) (.int i) H Q := .inr (.inl ⟨a, xs, i, v, rfl, rfl, SqT.of h, e, q⟩)
/-- a field of an instance: what is asked -/
def FldP (K : PySem.W.Frag) (f : Str) (x : V) (H : Hp) (Q : VK) : Prop := ∃ a C dx fs v, x = .ref a ∧ H a = some (.ins C dx fs) ∧ Cls K C ∧ NoAttr K C f ∧ fs.lookup f = some v ∧ Q v H
theorem w_fld {C dx : Addr} {fs : List (Str × V)} {f : Str} (h : H a = some (.ins C dx fs)) (hc : Cls K C) (hn : NoAttr K C f) (l : fs.lookup f = some v) (q : Q v H) : FldP K f (.ref a) H Q :=
  ⟨a, C, dx, fs, v, rfl, h, hc, hn, l, q⟩
theorem w_fldE {f : Str} (q : te σ H fun x H1 => FldP K f x H1 Q) : tFld K te f σ H Q := q
/-- a field stored: what is asked -/
def StoP (K : PySem.W.Frag) (f : Str) (y x : V) (H : Hp) (N : Hp → Prop) : Prop := ∃ a C dx fs, x = .ref a ∧ H a = some (.ins C dx fs) ∧ Cls K C ∧ NoAttr K C f ∧ fs.length < 1000 ∧ N (upd H a (.ins C dx (putF f y fs)))
theorem w_sto {C dx : Addr} {fs : List (Str × V)} {f : Str} {N : Hp → Prop} (h : H a = some (.ins C dx fs)) (hc : Cls K C) (hn : NoAttr K C f) (l : Nat.blt fs.length 1000 = true) (q : ∀ H', SameX a H H' → H' a = some (.ins C dx (putF f v fs)) → N H') : StoP K f v (.ref a) H N :=
  ⟨a, C, dx, fs, rfl, h, hc, hn, by simpa using l, q _ (SameX.upd fun _ _ _ e => e) upd_same⟩
theorem w_stoE {f : Str} {tv : TE} {nx bk ct : L2.St → Hp → Prop} {rt : VK} (q : tv σ H fun y H1 => te σ H1 fun x H2 => StoP K f y x H2 fun H3 => nx σ H3) : sFld K te tv f ⟨nx, rt, bk, ct⟩ σ H := q
theorem rf_top (t r b : Int) : (rootF t r b).lookup ("top" : Str) = some (.int t) := by simp [rootF, List.lookup]
theorem rf_root (t r b : Int) : (rootF t r b).lookup ("root" : Str) = some (.int r) := by
  have : (("root" : Str) == "top") = false := by decide +kernel
  simp [rootF, List.lookup, this]
theorem rf_bottom (t r b : Int) : (rootF t r b).lookup ("bottom" : Str) = some (.int b) := by
  have h1 : (("bottom" : Str) == "top") = false := by decide +kernel
  have h2 : (("bottom" : Str) == "root") = false := by decide +kernel
  simp [rootF, List.lookup, h1, h2]
theorem put_root (t r b : Int) : putF "bottom" (.int b) (putF "root" (.int r) (putF "top" (.int t) [])) = rootF t r b := by
  have h1 : ¬ (("top" : Str) = "root") := by decide +kernel
  have h2 : ¬ (("top" : Str) = "bottom") := by decide +kernel
  have h3 : ¬ (("root" : Str) = "bottom") := by decide +kernel
  simp [putF, rootF, h1, h2, h3]
theorem put1 (v : V) : putF "top" v [] = [(("top" : Str), v)] := rfl
theorem put2 (u v : V) : putF "root" v [(("top" : Str), u)] = [(("top" : Str), u), ("root", v)] := by
  have h1 : ¬ (("top" : Str) = "root") := by decide +kernel
  simp [putF, h1]
theorem put3 (t r b : Int) : putF "bottom" (.int b) [(("top" : Str), .int t), ("root", .int r)] = rootF t r b := by
  have h2 : ¬ (("top" : Str) = "bottom") := by decide +kernel
  have h3 : ¬ (("root" : Str) = "bottom") := by decide +kernel
  simp [putF, rootF, h2, h3]
theorem rf_eq {t r b t' r' b' : Int} : rootF t r b = rootF t' r' b' ↔ t = t' ∧ r = r' ∧ b = b' := by simp [rootF]
end
/-! ### loops and comprehensions: the thing that is walked is known -/
section
variable {K : PySem.W.Frag} {σ : St} {H : Hp} {Q : VK} {tl : TE} {ta : TA} {g : TG} {tb : TS} {D : Ends} {p : Addr} {xs : List V} {tt : TT} {te : TE} {ws : List Nat}
def ForT (K : PySem.W.Frag) (g : TG) (tb : TS) (D : Ends) (σ : St) (x : V) (H : Hp) : Prop := tFor (iTup K (tC x)) g tb D σ H
def ForL (K : PySem.W.Frag) (g : TG) (tb : TS) (D : Ends) (σ : St) (x : V) (H : Hp) : Prop := tFor (iList K (tC x)) g tb D σ H
def ForR (g : TG) (tb : TS) (D : Ends) (σ : St) (vs : List V) (H : Hp) : Prop := tFor (iRng1 fun _ H Q => Q vs H) g tb D σ H
def ForR2 (g : TG) (tb : TS) (D : Ends) (σ : St) (vs : List V) (H : Hp) : Prop := tFor (iRng2 fun _ H Q => Q vs H) g tb D σ H
def CompL (K : PySem.W.Frag) (g : TG) (tt : TT) (te : TE) (ws : List Nat) (σ : St) (x : V) (H : Hp) (Q : VK) : Prop := tLc (iList K (tC x)) g tt te ws σ H Q
def CompT (K : PySem.W.Frag) (g : TG) (tt : TT) (te : TE) (ws : List Nat) (σ : St) (x : V) (H : Hp) (Q : VK) : Prop := tLc (iTup K (tC x)) g tt te ws σ H Q
def CompR (g : TG) (tt : TT) (te : TE) (ws : List Nat) (σ : St) (vs : List V) (H : Hp) (Q : VK) : Prop := tLc (iRng1 fun _ H Q => Q vs H) g tt te ws σ H Q
theorem w_forT (q : tl σ H fun x H1 => ForT K g tb D σ x H1) : tFor (iTup K tl) g tb D σ H := q
theorem w_forL (q : tl σ H fun x H1 => ForL K g tb D σ x H1) : tFor (iList K tl) g tb D σ H := q
theorem w_forR (q : ta σ H fun vs H1 => ForR g tb D σ vs H1) : tFor (iRng1 ta) g tb D σ H := q
theorem w_forR2 (q : ta σ H fun vs H1 => ForR2 g tb D σ vs H1) : tFor (iRng2 ta) g tb D σ H := q
theorem w_lcL (q : tl σ H fun x H1 => CompL K g tt te ws σ x H1 Q) : tLc (iList K tl) g tt te ws σ H Q := q
theorem w_lcT (q : tl σ H fun x H1 => CompT K g tt te ws σ x H1 Q) : tLc (iTup K tl) g tt te ws σ H Q := q
theorem w_lcR (q : ta σ H fun vs H1 => CompR g tt te ws σ vs H1 Q) : tLc (iRng1 ta) g tt te ws σ H Q := q
theorem k_forT {nx bk ct : L2.St → Hp → Prop} {rt : VK} (Pv : Nat → St → Hp → Prop) (h : H p = some (.tup xs)) (h0 : Pv 0 σ H) (hl : ∀ i σ H, Pv i σ H → H p = some (.tup xs))
    (hs : ∀ i x σ H, xs[i]? = some x → Pv i σ H → g x σ H fun σ2 H2 => tb ⟨Pv (i + 1), rt, nx, Pv (i + 1)⟩ σ2 H2) (hd : ∀ σ H, Pv xs.length σ H → nx σ H) : ForT K g tb ⟨nx, rt, bk, ct⟩ σ (.ref p) H :=
  ⟨p, rfl, ⟨_, SqT.of h⟩, for_tup (xs := xs) Pv h0 (fun i σ H _ q => SqT.of (hl i σ H q)) hs hd⟩
theorem k_forL {nx bk ct : L2.St → Hp → Prop} {rt : VK} (Pv : Nat → St → Hp → Prop) (h : SqL K H p xs) (h0 : Pv 0 σ H) (hl : ∀ i σ H, Pv i σ H → SqL K H p xs)
    (hs : ∀ i x σ H, xs[i]? = some x → Pv i σ H → g x σ H fun σ2 H2 => tb ⟨Pv (i + 1), rt, nx, Pv (i + 1)⟩ σ2 H2) (hd : ∀ σ H, Pv xs.length σ H → nx σ H) : ForL K g tb ⟨nx, rt, bk, ct⟩ σ (.ref p) H :=
  ⟨p, rfl, ⟨_, h⟩, for_list (xs := xs) Pv h0 (fun i σ H _ q => hl i σ H q) hs hd⟩
theorem k_forR {nx bk ct : L2.St → Hp → Prop} {rt : VK} {n : Int} (Pv : Nat → St → Hp → Prop) (h1 : -(2 ^ 62) ≤ n) (h2 : n < 2 ^ 62) (h0 : Pv 0 σ H)
    (hs : ∀ i σ H, i < n.toNat → Pv i σ H → g (.int (0 + (i : Nat))) σ H fun σ2 H2 => tb ⟨Pv (i + 1), rt, nx, Pv (i + 1)⟩ σ2 H2) (hd : ∀ σ H, Pv n.toNat σ H → nx σ H) : ForR g tb ⟨nx, rt, bk, ct⟩ σ [.int n] H :=
  ⟨n, rfl, h1, h2, for_range (lo := 0) (n := n.toNat) Pv h0 hs hd⟩
theorem k_lcR {n : Int} (Pv : Nat → Addr → Hp → Prop) (h1 : -(2 ^ 62) ≤ n) (h2 : n < 2 ^ 62) (h0 : ∀ D, H D = none → Pv 0 D (upd H D (.lst [])))
    (hs : ∀ i D H, i < n.toNat → Pv i D H → g (.int (0 + (i : Nat))) (wipe σ ws) H fun σ2 H2 => wipe σ2 ws = wipe σ ws ∧ tt σ2 H2 fun b H3 =>
      if b = true then te σ2 H3 fun y H4 => ∃ acc, H4 D = some (.lst acc) ∧ acc.length < sizeLine ∧ Pv (i + 1) D (upd H4 D (.lst (acc ++ [y]))) else Pv (i + 1) D H3) (hd : ∀ D H, Pv n.toNat D H → Q (.ref D) H) : CompR g tt te ws σ [.int n] H Q :=
  ⟨n, rfl, h1, h2, fun D hD => lc_range (lo := 0) (n := n.toNat) (fun i H => Pv i D H) (h0 D hD) (fun i H hi q => hs i D H hi q) (fun H q => hd D H q)⟩
theorem k_lcL (Pv : Nat → Addr → Hp → Prop) (h : SqL K H p xs) (h0 : ∀ D, H D = none → Pv 0 D (upd H D (.lst []))) (hl : ∀ i D H, Pv i D H → SqL K H p xs)
    (hs : ∀ i x D H, xs[i]? = some x → Pv i D H → g x (wipe σ ws) H fun σ2 H2 => wipe σ2 ws = wipe σ ws ∧ tt σ2 H2 fun b H3 =>
      if b = true then te σ2 H3 fun y H4 => ∃ acc, H4 D = some (.lst acc) ∧ acc.length < sizeLine ∧ Pv (i + 1) D (upd H4 D (.lst (acc ++ [y]))) else Pv (i + 1) D H3) (hd : ∀ D H, Pv xs.length D H → Q (.ref D) H) : CompL K g tt te ws σ (.ref p) H Q :=
  ⟨p, rfl, ⟨_, h⟩, fun D hD => lc_list (xs := xs) (fun i H => Pv i D H) (h0 D hD) (fun i H _ q => hl i D H q) (fun i x H hx q => hs i x D H hx q) (fun H q => hd D H q)⟩
end
/-! ### instances made -/
/-- C(..): what is asked -/
def MkC (C : Addr) (sp : Sp) (E : XK) (vs : List V) (H : Hp) (Q : VK) : Prop := ∀ x dx, H x = none → H dx = none → dx ≠ x →
  sp (.ref x :: vs) (upd (upd H dx (.own x)) x (.ins C dx [])) (fun v H2 => v = .non ∧ Q (.ref x) H2) E
theorem w_mkC {C : Addr} {sp : Sp} {E : L2.St → XK} {tl : TA} {σ : L2.St} {H : Hp} {Q : VK} (q : tl σ H fun vs H1 => MkC C sp (E σ) vs H1 Q) : tMakeS C sp E tl σ H Q := q
/-- o.m(..): what is asked of o -/
def MethP (C : Addr) (m : Str) (x : V) (H : Hp) (N : Hp → Prop) : Prop := ∃ a dx fs, x = .ref a ∧ H a = some (.ins C dx fs) ∧ fs.lookup m = none ∧ N H
theorem w_meth {C : Addr} {m : Str} {sp : Sp} {E : L2.St → XK} {ta : TE} {tl : TA} {σ : L2.St} {H : Hp} {Q : VK} (q : ta σ H fun x H1 => MethP C m x H1 fun H2 => tl σ H2 fun vs H3 => sp (x :: vs) H3 Q (E σ)) : tMethS C m sp E ta tl σ H Q := q
theorem k_meth {C a dx : Addr} {m : Str} {fs : List (Str × V)} {H : Hp} {N : Hp → Prop} (h : H a = some (.ins C dx fs)) (l : fs.lookup m = none) (q : N H) : MethP C m (.ref a) H N := ⟨a, dx, fs, rfl, h, l, q⟩
theorem rf_none {t r b : Int} {m : Str} (h1 : (m == ("top" : Str)) = false) (h2 : (m == ("root" : Str)) = false) (h3 : (m == ("bottom" : Str)) = false) : (rootF t r b).lookup m = none := by simp [rootF, List.lookup, h1, h2, h3]
/-! ### own errors with one field -/
def spX (C : Addr) (f : Str) : Sp := fun vs H Q _ => ∃ (a : Addr) (v : V), vs = [.ref a, v] ∧ H a = some (exo a C none) ∧ ∀ d, H d = none → d ≠ a → Q .non (upd (upd H d (exd d [(f, v)])) a (exo a C (some d)))
/-- an own error made: what is asked -/
def MkOP (C : Addr) (sp : Sp) (vs : List V) (H : Hp) (Q : XK) : Prop := vs.length ≤ 1000 ∧ ∀ a, H a = none → sp (.ref a :: (vs ++ [])) (upd H a (exo a C none))
    (fun v H2 => v = .non ∧ ∃ (d : Addr) (fs : List (Str × V)), H2 a = some (exo a C (some d)) ∧ H2 d = some (exd d fs) ∧ H d = none ∧ Q (.ref C) (some d) (upd (del H2 a) d (.xd fs))) (fun _ _ _ => False)
theorem w_mkO {C : Addr} {sp : Sp} {tl : TA} {σ : St} {H : Hp} {Q : XK} (q : tl σ H fun vs H1 => MkOP C sp vs H1 Q) : tMkO C sp [] tl σ H Q := q
theorem k_mkO {C : Addr} {f : Str} {v : V} {H : Hp} {Q : XK} (h : ∀ d H2, H d = none → Same H H2 → H2 d = some (.xd [(f, v)]) → Q (.ref C) (some d) H2) : MkOP C (spX C f) [v] H Q := by
  refine ⟨by simp, fun a ha => ⟨a, v, rfl, upd_same, fun d hd hn => ⟨rfl, d, [(f, v)], upd_same, ?_, ?_, ?_⟩⟩⟩
  · rw [upd_ne hn, upd_same]
  · rw [upd_ne hn] at hd; exact hd
  · have hd' : H d = none := by rw [upd_ne hn] at hd; exact hd
    refine h d _ hd' (fun b o e => ?_) upd_same
    have n1 : b ≠ d := ne_of_none e hd'
    have n2 : b ≠ a := ne_of_none e ha
    rw [upd_ne n1, del_ne n2, upd_ne n2, upd_ne n1, upd_ne n2]
    exact e
end L2.My

/-! W3: built-ins by name, stores into lists, products, the state that laws draw from. -/
namespace L2.My
open PySem PySem.Spec PyProof.Rows
section
variable {X : Cx} {K : PySem.W.Frag} {σ : L2.St} {H : Hp} {Q : VK} {te : TE} {tl : TA} {a p : Addr} {xs : List V} {i j : Int} {v : V}
def rInt : List V → Hp → VK → Prop := fun vs H Q => (∃ i, vs = [.int i] ∧ Q (.int i) H) ∨ ∃ k, vs = [.bl k] ∧ Q (.int (if k then 1 else 0)) H
theorem cn_int : CallR X (.type "int") rInt := call_int1
theorem w_int (q : Q (.int i) H) : rInt [.int i] H Q := .inl ⟨i, rfl, q⟩
theorem w_intB {b : Bool} (q : Q (.int (if b then 1 else 0)) H) : rInt [.bl b] H Q := .inr ⟨b, rfl, q⟩
def rAbs : List V → Hp → VK → Prop := fun vs H Q => ∃ i, vs = [.int i] ∧ Q (.int (if i < 0 then -i else i)) H
theorem cn_abs : CallR X (.builtin "abs") rAbs := call_abs
theorem w_abs (q : Q (.int (i.natAbs : Int)) H) : rAbs [.int i] H Q := ⟨i, rfl, by
  have e : (if i < 0 then -i else i) = (i.natAbs : Int) := by split <;> omega
  rw [e]; exact q⟩
def rLen (K : PySem.W.Frag) : List V → Hp → VK → Prop := fun vs H Q => ∃ x n, vs = [x] ∧ LenV K x H n ∧ Q (.int n) H
theorem cn_len : CallR X (.builtin "len") (rLen X.K) := call_len
theorem w_lenL (h : SqL K H a xs) (q : Q (.int (xs.length : Nat)) H) : rLen K [.ref a] H Q := ⟨_, _, rfl, .inl ⟨_, h, rfl⟩, q⟩
theorem w_lenT (h : SqT K H a xs) (q : Q (.int (xs.length : Nat)) H) : rLen K [.ref a] H Q := ⟨_, _, rfl, .inr ⟨_, h, rfl⟩, q⟩
def rListOf (K : PySem.W.Frag) : List V → Hp → VK → Prop := fun vs H Q => ∃ p ys, vs = [.ref p] ∧ (SqL K H p ys ∨ SqT K H p ys) ∧ ∀ l, H l = none → Q (.ref l) (upd H l (.lst ys))
theorem cn_list : CallR X (.type "list") (rListOf X.K) := call_list_of
theorem w_listL (h : SqL K H a xs) (q : ∀ l H2, H l = none → Same H H2 → H2 l = some (.lst xs) → Q (.ref l) H2) : rListOf K [.ref a] H Q := ⟨a, xs, rfl, .inl h, fun l hl => q l _ hl (Same.new hl) upd_same⟩
theorem w_listT (h : SqT K H a xs) (q : ∀ l H2, H l = none → Same H H2 → H2 l = some (.lst xs) → Q (.ref l) H2) : rListOf K [.ref a] H Q := ⟨a, xs, rfl, .inr h, fun l hl => q l _ hl (Same.new hl) upd_same⟩
def NewD (H : Hp) (Q : VK) : Prop := ∀ p, H p = none → Q (.ref p) (upd H p (.dK []))
theorem w_dnew (q : NewD H Q) : tDNewK σ H Q := q
theorem k_dnew (q : ∀ p H2, H p = none → Same H H2 → H2 p = some (.dK []) → Q (.ref p) H2) : NewD H Q := fun p hp => q p _ hp (Same.new hp) upd_same
/-- a slice of a list -/
def SlP (r : V → Option Int → Option Int → Hp → VK → Prop) (x : V) (lo hi : Option Int) (H : Hp) (Q : VK) : Prop := r x lo hi H Q
theorem w_sl {r : V → Option Int → Option Int → Hp → VK → Prop} {t1 t2 : TO} (q : te σ H fun x H1 => t1 σ H1 fun l H2 => t2 σ H2 fun u H3 => SlP r x l u H3 Q) : tSl r te t1 t2 σ H Q := q
theorem k_slL {lo hi : Option Int} (h : SqL K H a xs) (q : ∀ l H2, H l = none → Same H H2 → H2 l = some (.lst (cutV xs lo hi)) → Q (.ref l) H2) : SlP (rSlL K) (.ref a) lo hi H Q := ⟨a, xs, rfl, h, fun l hl => q l _ hl (Same.new hl) upd_same⟩
theorem w_poN {QO : Option Int → Hp → Prop} (q : QO none H) : tNoPart σ H QO := q
theorem w_poS {QO : Option Int → Hp → Prop} (q : te σ H fun x H1 => ∃ i, x = .int i ∧ QO (some i) H1) : tPart te σ H QO := q
theorem w_exI {p : Int → Prop} (q : p i) : ∃ k, V.int i = .int k ∧ p k := ⟨i, rfl, q⟩
/-- xs[i] = v -/
theorem w_gsub {to ti : TE} {t : TSet} {N : L2.St → Hp → Prop} (q : to σ H fun o H1 => ti σ H1 fun i H2 => t o i v H2 fun H3 => N σ H3) : gSub to ti t v σ H N := q
theorem w_setL {N : Hp → Prop} {n : Nat} (h : H a = some (.lst xs)) (e : ixN xs.length i = some n) (q : ∀ H2, SameX a H H2 → H2 a = some (.lst (xs.set n v)) → N H2) : rSetL (.ref a) (.int i) v H N :=
  ⟨a, xs, i, n, rfl, rfl, h, e, q _ (SameX.upd fun _ _ _ e => e) upd_same⟩
theorem w_yes {QB : Bool → Hp → Prop} (q : QB true H) : tYes σ H QB := q
/-- ways meet behind a statement -/
theorem w_cut {ts us : TS} {nx bk ct : L2.St → Hp → Prop} {rt : VK} (Mid : L2.St → Hp → Prop) (h : ts ⟨Mid, rt, bk, ct⟩ σ H) (q : ∀ σ' H', Mid σ' H' → us ⟨nx, rt, bk, ct⟩ σ' H') : C8.tCut ts us ⟨nx, rt, bk, ct⟩ σ H := ⟨Mid, h, q⟩
theorem w_cutE {ts us : TS} {nx bk ct : L2.St → Hp → Prop} {rt : VK} {σ' : L2.St} {H' : Hp} (h : ts ⟨fun σ1 H1 => σ1 = σ' ∧ H1 = H', rt, bk, ct⟩ σ H) (q : us ⟨nx, rt, bk, ct⟩ σ' H') : C8.tCut ts us ⟨nx, rt, bk, ct⟩ σ H := ⟨_, h, fun _ _ e => by rw [e.1, e.2]; exact q⟩
/-- products: one factor is small, or both together are not too large -/
def CMulS (i j : Int) : Prop := (-18446744073709551616 < i ∧ i < 18446744073709551616) ∨ (-18446744073709551616 < j ∧ j < 18446744073709551616) ∨ CMulW i j
theorem op_mulS : OpR X (binaryOp .Mult) (rI CMulS fun i j => .int (i * j)) := opI fun _ _ _ _ _ _ _ hc q => by
  rcases hc with h | h | h
  · exact mul_int q (CMul.ok (.inl h))
  · exact mul_int q (CMul.ok (.inr h))
  · exact mul_int q h.ok
theorem atI_ints {ns : List Int} {k : Int} (h0 : 0 ≤ k) (h1 : k < (ns.length : Int)) : ∃ z, atI (ns.map V.int) k = some (.int z) := by
  obtain ⟨n, rfl⟩ := Int.eq_ofNat_of_zero_le h0
  have hn : n < ns.length := by omega
  exact ⟨ns[n], atI_nat (by simp [hn])⟩
theorem cut_ints (ns : List Int) (lo hi : Option Int) : ∃ ms : List Int, cutV (ns.map V.int) lo hi = ms.map V.int := by
  unfold cutV
  exact ⟨((ns.drop (HT.sIx (ns.map V.int).length 0 lo)).take (HT.sIx (ns.map V.int).length (ns.map V.int).length hi - HT.sIx (ns.map V.int).length 0 lo)), by rw [List.map_take, List.map_drop]⟩
/-- a number that is not too great; omega doesn't see into it -/
def Bd (x : Int) : Prop := x.natAbs < 2 ^ 8000
/-! ### data compared -/
theorem dp_ints : ∀ ns : List Int, DpAll K H (ns.map V.int) (ns.map PyData.int)
  | [] => .nil
  | n :: ns => .cons (.int n) (dp_ints ns)
theorem can_ints : ∀ ns : List Int, PyData.canLayAll0 (ns.map PyData.int) = true
  | [] => rfl
  | n :: ns => by simp only [List.map_cons, PyData.canLayAll0, PyData.canLay0, can_ints ns, Bool.and_self]
theorem depth_ints : ∀ ns : List Int, PyData.depthAll (ns.map PyData.int) = 0
  | [] => rfl
  | n :: ns => by simp only [List.map_cons, PyData.depthAll, PyData.depth, depth_ints ns]; rfl
theorem eqv_ints : ∀ ns ms : List Int, PyData.eqvAll (ns.map PyData.int) (ms.map PyData.int) = decide (ns = ms)
  | [], [] => rfl
  | [], _ :: _ => rfl
  | _ :: _, [] => rfl
  | n :: ns, m :: ms => by
    simp only [List.map_cons, PyData.eqvAll, PyData.eqv, eqv_ints ns ms, List.cons.injEq, Bool.decide_and]
    rfl
theorem shaped_ints (ns : List Int) : SeqAt.shaped (.tuple (ns.map PyData.int)) = true := by
  simp only [SeqAt.shaped, PyData.canLay0, can_ints, PyData.depth, depth_ints]; decide
theorem w_eqT {b : Addr} {ns ms : List Int} (h1 : H a = some (.tup (ns.map V.int))) (h2 : H b = some (.tup (ms.map V.int))) (q : Q (.bl (decide (ns = ms))) H) : rEqD K (.ref a) (.ref b) H Q :=
  ⟨.tuple (ns.map .int), .tuple (ms.map .int), .tup (SqT.of h1) (dp_ints ns), .tup (SqT.of h2) (dp_ints ms), shaped_ints _, shaped_ints _, by rw [PyData.eqv, eqv_ints]; exact q⟩
/-- == of plain things: data of any depth, dicts -/
def rEqU (K : PySem.W.Frag) : R2 := fun x y H Q => rEqD K x y H Q ∨ rEqDA x y H Q
theorem op_eqU (hu : X.A.units + 64 < cLine) : OpR X (compareOp .Eq) (rEqU X.K) := (op_eqD hu).or (op_eq_dictA (by omega))
/-- a thing that == finds equal to itself -/
inductive Selfy (H : Hp) : V → Prop
  | non : Selfy H .non
  | int (i : Int) : Selfy H (.int i)
  | str (s : Str) (h : SeqAt.shaped (.str s) = true) : Selfy H (.str s)
  | lst (a : Addr) (ns : List Int) (e : H a = some (.lst (ns.map V.int))) : Selfy H (.ref a)
  | tup (a : Addr) (ns : List Int) (e : H a = some (.tup (ns.map V.int))) : Selfy H (.ref a)
  | dK (a : Addr) (e : H a = some (.dK [])) : Selfy H (.ref a)
theorem shaped_intsL (ns : List Int) : SeqAt.shaped (.list (ns.map PyData.int)) = true := by
  simp only [SeqAt.shaped, PyData.canLay0, can_ints, PyData.depth, depth_ints]; decide
theorem w_eqSelf (h : Selfy H v) (q : Q (.bl true) H) : rEqU K v v H Q := by
  have go : ∀ d, Dp K H v d → SeqAt.shaped d = true → rEqU K v v H Q := fun d hd sd => .inl ⟨d, d, hd, hd, sd, sd, by rw [SeqAt.eqv_refl d (SeqAt.canLay_of_shaped sd)]; exact q⟩
  cases h with
  | non => exact go _ .non (by decide +kernel)
  | int i => exact go _ (.int i) rfl
  | str s h => exact go _ (.str s) h
  | lst a ns e => exact go _ (.lst (SqL.of e) (dp_ints ns)) (shaped_intsL ns)
  | tup a ns e => exact go _ (.tup (SqT.of e) (dp_ints ns)) (shaped_ints ns)
  | dK a e => exact .inr ⟨a, a, [], [], rfl, rfl, e, e, rfl, (fun _ h => nomatch h), q⟩
/-- a thing of the law's own: a kind that is known, and if it is no int, one that is found equal to itself -/
structure Odd (c : Addr) (H : Hp) (v : V) : Prop where
  th : Th c H v
  eq : isI v = false → (∃ b, v = .bl b) ∨ isB v = false ∧ Selfy H v
theorem Odd.sx {c p : Addr} {H H' : Hp} (h : Odd c H v) (h3 : ∀ a, v = .ref a → a ≠ p) (s : SameX p H H') : Odd c H' v := by
  obtain ⟨h1, h2⟩ := h
  refine ⟨?_, fun z => ?_⟩
  · cases h1 with
    | non => exact .non
    | bl b => exact .bl b
    | int i => exact .int i
    | str s => exact .str s
    | lst a xs e => exact .lst a xs (s _ _ (h3 a rfl) e)
    | tup a xs e => exact .tup a xs (s _ _ (h3 a rfl) e)
    | dK a xs e => exact .dK a xs (s _ _ (h3 a rfl) e)
    | root a dx t r b e => exact .root a dx t r b (s _ _ (h3 a rfl) e)
  · rcases h2 z with h | ⟨hb, h⟩
    · exact .inl h
    · refine .inr ⟨hb, ?_⟩
      cases h with
      | non => exact .non
      | int i => exact .int i
      | str s h => exact .str s h
      | lst a ns e => exact .lst a ns (s _ _ (h3 a rfl) e)
      | tup a ns e => exact .tup a ns (s _ _ (h3 a rfl) e)
      | dK a e => exact .dK a (s _ _ (h3 a rfl) e)
theorem Odd.int {c : Addr} (i : Int) : Odd c H (.int i) := ⟨.int i, fun e => by cases e⟩
theorem w_Tself {α : Type} [DecidableEq α] {x : α} {A B : Prop} (q : A) : if decide (x = x) = true then A else B := by rw [decide_eq_true rfl]; exact iteT q
theorem w_Fself {α : Type} [DecidableEq α] {x : α} {A B : Prop} (q : B) : if (!decide (x = x)) = true then A else B := by rw [decide_eq_true rfl]; exact iteF q
theorem w_isB {b c : Bool} (q : Q (.bl (decide (b = c))) H) : rIsB (.bl b) (.bl c) H Q := ⟨b, c, rfl, rfl, q⟩
/-- the state that a law draws from stands at p, its cells at q -/
def StA (H : Hp) (p q : Addr) : Prop := ∃ (ns : List Int) (at_ pend : Int), H p = some (.lst [.ref q, .int at_, .int pend]) ∧ H q = some (.lst (ns.map V.int)) ∧ q ≠ p ∧ 0 ≤ at_ ∧ 0 ≤ pend
theorem StA.same {H H' : Hp} {p q : Addr} (h : StA H p q) (s : Same H H') : StA H' p q := by
  obtain ⟨ns, at_, pend, h1, h2, h3⟩ := h
  exact ⟨ns, at_, pend, s _ _ h1, s _ _ h2, h3⟩
theorem sz_lt {n : Nat} (h : n < 1000) : n < sizeLine := Nat.lt_of_lt_of_le h (by decide)
/-- a new object is another one -/
theorem StA.new {H : Hp} {p q b : Addr} (h : StA H p q) (e : H b = none) : b ≠ p ∧ b ≠ q := by
  obtain ⟨ns, at_, pend, h1, h2, _⟩ := h
  exact ⟨fun z => (by rw [z, h1] at e; cases e), fun z => (by rw [z, h2] at e; cases e)⟩
/-- a change elsewhere -/
theorem StA.other {H : Hp} {p q b : Addr} {o : HO} (h : StA H p q) (n : b ≠ p ∧ b ≠ q) : StA (upd H b o) p q := by
  obtain ⟨ns, at_, pend, h1, h2, h3⟩ := h
  exact ⟨ns, at_, pend, by rw [upd_ne (Ne.symm n.1)]; exact h1, by rw [upd_ne (Ne.symm n.2)]; exact h2, h3⟩
theorem StA.otherX {H H' : Hp} {p q b : Addr} (h : StA H p q) (n : b ≠ p ∧ b ≠ q) (s : SameX b H H') : StA H' p q := by
  obtain ⟨ns, at_, pend, h1, h2, h3⟩ := h
  exact ⟨ns, at_, pend, s _ _ (Ne.symm n.1) h1, s _ _ (Ne.symm n.2) h2, h3⟩
/-- another object than the state -/
theorem StA.ne {H : Hp} {p q b : Addr} {o : HO} (h : StA H p q) (e : H b = some o) (n : ∀ xs, o ≠ .lst xs) : b ≠ p := by
  obtain ⟨ns, at_, pend, h1, _⟩ := h
  exact ne_of e h1 (n _)
/-- a comprehension over a range whose turns draw: ints of which P holds -/
theorem k_lcDraw {st sc : Addr} {n : Int} {ws : List Nat} {slot : Nat} {te : TE} {P : Int → Prop} (h1 : -(2 ^ 62) ≤ n) (h2 : n ≤ 500) (hs : StA H st sc)
    (hw : ∀ z, wipe ((wipe σ ws).set slot (some (.int z))) ws = wipe σ ws)
    (turn : ∀ z H', StA H' st sc → SameX st H H' → ∀ N : VK, (∀ y H2, P y → SameX st H' H2 → StA H2 st sc → N (.int y) H2) → te ((wipe σ ws).set slot (some (.int z))) H' N)
    (hd : ∀ (D : Addr) (H' : Hp) (ms : List Int), H' D = some (.lst (ms.map V.int)) → ms.length = n.toNat → (∀ z ∈ ms, P z) → D ≠ st ∧ D ≠ sc → StA H' st sc → SameX st H H' → Q (.ref D) H') : CompR (gName slot) tYes te ws σ [.int n] H Q := by
  refine k_lcR (fun i D H' => H D = none ∧ ∃ ms : List Int, H' D = some (.lst (ms.map V.int)) ∧ ms.length = i ∧ (∀ z ∈ ms, P z) ∧ (D ≠ st ∧ D ≠ sc) ∧ StA H' st sc ∧ SameX st H H') h1 (by omega) (fun D hD => ⟨hD, [], upd_same, rfl, (fun _ h => nomatch h), hs.new hD, hs.same (Same.new hD), Same.x (Same.new hD)⟩) ?_ ?_
  · rintro i D H' hi ⟨hD, ms, e1, e2, e3, e4, e5, e6⟩
    refine ⟨hw _, ?_⟩
    refine w_yes (w_T rfl ?_)
    refine turn _ H' e5 e6 _ fun y H2 py s2 st2 => ?_
    refine ⟨_, s2 _ _ e4.1 e1, by rw [List.length_map, e2]; exact sz_lt (by omega), hD, ms ++ [y], by rw [List.map_append]; exact upd_same, by rw [List.length_append, e2]; rfl, ?_, e4, st2.other e4, fun b o nb e => ?_⟩
    · intro m hm
      rcases List.mem_append.mp hm with h | h
      · exact e3 m h
      · obtain rfl : m = y := by simpa using h
        exact py
    · rw [upd_ne (ne_of_none e hD)]
      exact s2 _ _ nb (e6 _ _ nb e)
  · rintro D H' ⟨hD, ms, e1, e2, e3, e4, e5, e6⟩
    exact hd D H' ms e1 e2 e3 e4 e5 e6
/-- a comprehension over a list of ints, without draws: ints again -/
theorem k_lcInts {p : Addr} {ns : List Int} {ws : List Nat} {slot : Nat} {te : TE} {f : Int → Int} (h : SqL K H p (ns.map V.int)) (hl : ns.length ≤ 500)
    (hw : ∀ z, wipe ((wipe σ ws).set slot (some (.int z))) ws = wipe σ ws) (hsame : ∀ H', Same H H' → SqL K H' p (ns.map V.int))
    (turn : ∀ z H', z ∈ ns → Same H H' → ∀ N : VK, N (.int (f z)) H' → te ((wipe σ ws).set slot (some (.int z))) H' N)
    (hd : ∀ D H', H D = none → Same H H' → H' D = some (.lst ((ns.map f).map V.int)) → Q (.ref D) H') : CompL K (gName slot) tYes te ws σ (.ref p) H Q := by
  refine k_lcL (xs := ns.map V.int) (fun i D H' => H D = none ∧ Same H H' ∧ H' D = some (.lst (((ns.take i).map f).map V.int))) h (fun D hD => ⟨hD, Same.new hD, upd_same⟩) (fun i D H' e => hsame H' e.2.1) ?_ ?_
  · rintro i x D H' hx ⟨hD, s1, e1⟩
    have hi : i < ns.length := by
      have := (List.getElem?_eq_some_iff.mp hx).1
      rwa [List.length_map] at this
    obtain rfl : x = V.int ns[i] := by
      rw [List.getElem?_map, List.getElem?_eq_getElem hi] at hx
      exact (Option.some.inj hx).symm
    refine ⟨hw _, ?_⟩
    refine w_yes (w_T rfl ?_)
    refine turn _ H' (List.getElem_mem hi) s1 _ ?_
    refine ⟨_, e1, by rw [List.length_map, List.length_map, List.length_take]; exact sz_lt (by omega), hD, fun b o e => ?_, ?_⟩
    · rw [upd_ne (ne_of_none e hD)]
      exact s1 b o e
    · have e : ns.take (i + 1) = ns.take i ++ [ns[i]] := by rw [List.take_add_one, List.getElem?_eq_getElem hi]; rfl
      rw [upd_same, e, List.map_append, List.map_append]
      rfl
  · rintro D H' ⟨hD, s1, e1⟩
    rw [List.length_map, List.take_length] at e1
    exact hd D H' hD s1 e1
end
end L2.My

/-! W4: isinstance of a caught own error that bears a field. -/
namespace PySem.W
open PySem PySem.Spec PySem.Calls PyProof.Rows
section
variable {prog : Program} {w : World} {A : Around} {E : Value → Shared → Prop} {s : Shared} {K : Frag} {x D : Addr} {ox od : Obj}
/-- what the class of such an error says -/
structure XiC (K : Frag) (D : Addr) : Prop where
  hga : findIn K (.ref D) "__getattribute__" = some (some (.builtin "BaseException.__getattribute__"))
  hgt : findIn K (.ref D) "__getattr__" = some none
  hsub : subIn K (.ref D) (.type "BaseException") = some true
  hdct : hasDictIn K D = true
  ha : findIn K (.ref D) "__class__" = some (some (.builtin "object.__class__"))
  hn : specialIn K (.builtin "object.__class__") "__get__" = some (some (.builtin "getset_descriptor.__get__"))
  htk : takesIn K (.builtin "object.__class__") = some true
  hm : mroIn K D (.type "object") = some true
theorem xi_class {Q : Option Value → Shared → Prop} (T : XiC K D) (X : K.In s.heap) (I : InstAt s.heap x ox D (some od)) (h : Q (some (.ref D)) { s with toks := s.toks + 1 }) : wpAny (model prog w) A (getAttr? (.ref x) "__class__") Q E s := by
  have fnd : findObj K D (some od) "__class__" = some (.bind (.builtin "getset_descriptor.__get__") (.builtin "object.__class__")) := findObj_data (by obtain ⟨cd, hc, _⟩ := any_some T.hdct; rw [hc]; rfl) T.ha T.hn T.htk
  obtain ⟨hp, g, d, t, os⟩ := s
  have l0 := I.type (M := model prog w)
  have l1 := looks_findIn (M := model prog w) X T.hga
  have l2 := looks_findIn (M := model prog w) X T.hgt
  have l3 := looks_find (M := model prog w) X I fnd
  have sb : Looks (model prog w) hp (isInstance (.ref x) (.type "BaseException")) true := l0.andThen (looks_subIn X T.hsub)
  have n0 : (false && onTheHeap (Value.builtin "BaseException.__getattribute__")) = false := rfl
  have n2 : (Value.builtin "BaseException.__getattribute__" == Value.builtin "object.__getattribute__") = false := by decide +kernel
  have n1 : (onTheHeap (Value.ref D) && Value.builtin "BaseException.__getattribute__" == Value.builtin "object.__getattribute__") = false := by rw [n2]; rfl
  unfold getAttr? getAttrBy? getAttrBy
  refine wpAny_bind (wpAny_mkText (wpAny_bind (wpAny_attempt (wpAny_holding (wpAny_bind (l0.at (wpAny_bind (l1.at ?_))))))))
  dsimp only
  rw [n1, if_neg Bool.false_ne_true]
  unfold getAttrByItsOwn hookBefore
  refine wpAny_bind ?_
  rw [if_pos (show onTheHeap (Value.ref D) = true from rfl)]
  refine l2.at (wpAny_bind (wpAny_attempt (wpAny_holding ?_)))
  unfold callGetattribute
  rw [n0, if_neg Bool.false_ne_true]
  unfold boundAndCalled
  rw [PySem.F.excAttr_ValueError.ga.bind (.ref x)]
  refine wpAny_bind (wpAny_pure ?_)
  show wpAny _ _ (call (.builtin "BaseException.__getattribute__") [.ref x, .str "__class__" t]) _ _ _
  refine wpAny_call (codeAny_call_builtin PySem.F.excAttr_ValueError.ga.plain PySem.F.entry_bexc_ga ?_)
  refine @check_slot (model prog w) _ _ ⟨hp, g, d, t + 1, os⟩ "BaseException.__getattribute__" "BaseException" "__getattribute__" (.ref x) [.str "__class__" t] [] _ (by decide +kernel) (by decide +kernel) sb (PySem.F.args_bexc_ga (.ref x) (.str "__class__" t)) ?_
  unfold Builtin.«object.__getattribute__»
  refine wpAny_bind (wpAny_of_eq (a := ((Value.ref x : Value), [Value.str "__class__" t])) (by first | rfl | (simp only [slotArgs]; rfl)) ?_)
  refine wpAny_bind (wpAny_pure (wpAny_bind (l0.at (wpAny_bind (l3.at ?_)))))
  show wpAny _ _ (holding [Value.builtin "object.__class__"] (call (.builtin "getset_descriptor.__get__") [.builtin "object.__class__", .ref x, .ref D]) >>= ret) _ _ _
  refine wpAny_bind (wpAny_holding (wpAny_call (class_get (s := ⟨hp, g, d, t + 1, os⟩) (ox := ox) (od := some od) X I T.hm ?_)))
  refine wpAny_pure ?_
  show wpAny _ _ (handedOut (.ref D)) _ _ _
  rw [handedOut_of (v := .ref D) rfl]
  first
    | exact wpAny_pure (wpAny_pure h)
    | exact wpAny_pure h
    | exact wpAny_pure (wpAny_bind (wpAny_pure (wpAny_pure h)))
theorem xi_kitx (T : XiC K D) : KitX K (.ref x) (.ref D) (fun h => ∃ ox od, InstAt h x ox D (some od)) where
  ty := fun _ _ _ ⟨_, _, I⟩ => I.type
  it := fun _ _ X _ => by
    obtain ⟨cdD, hcD, _⟩ := any_some T.hdct
    unfold clsIn at hcD
    split at hcD
    · rename_i c' d' cd' sl' ho
      intro A' Q' E' s' k q
      unfold isType loadHead
      exact wpAny_bind (wpAny_loadPart (k _ _ (X _ _ ho)) (wpAny_pure q))
    · cases hcD
  ne := fun h tp dd its n sl X htp => by
    obtain ⟨cdD, hcD, _⟩ := any_some T.hdct
    refine Bool.eq_false_iff.mpr fun q => ?_
    have e : D = tp := Value.ref.inj (beq_iff_eq.mp q)
    subst e
    unfold clsIn at hcD
    split at hcD
    · rename_i c' d' cd' sl' ho
      have z := (X _ _ ho).symm.trans htp
      cases z
    · cases hcD
  ca := fun X ⟨_, _, I⟩ k => xi_class T X I k
end
end PySem.W
namespace L2.My
open PySem PySem.Spec PyProof.Rows
/-- isinstance(e, c), e the own error that the suite holds -/
def rIsX (K : PySem.W.Frag) (D a : Addr) (cls : Value) (d : Option Addr) : List V → Hp → VK → Prop := fun xs H Q => ∃ (c : V) (cv : Value) (b : Bool) (dd : Addr) (fs : List (Str × V)), xs = [.ref a, c] ∧ cls = .ref D ∧ d = some dd ∧ H dd = some (.xd fs) ∧
  (∀ u, RelV c u → u = cv) ∧ PySem.W.kitOne K (.ref D) cv = some b ∧ Q (.bl b) H
theorem cn_isX {X : Cx} {a D : Addr} {cls : Value} {d : Option Addr} {oe : Obj} {pn : List (Addr × Obj)} (T : PySem.W.XiC X.K D) (hz : Zc cls d oe) (hf : ∃ vs, oe.data = .fields vs) : CallR (X.suite a ((a, oe) :: pn)) (.builtin "isinstance") (rIsX X.K D a cls d) := by
  intro pins s σ H xs us Q I r h
  obtain ⟨c, cv, b, dd, fs, rfl, rfl, rfl, ea, hcv, e, q⟩ := h
  obtain ⟨u1, u2, rfl, r1, r2⟩ := vals2 r
  cases (show u1 = Value.ref a from r1)
  have ec := hcv _ r2
  subst ec
  obtain ⟨hget, _⟩ := I.pin (a, oe) (List.mem_append_left _ List.mem_cons_self)
  obtain ⟨vs, hd⟩ := hf
  obtain ⟨mA, hns, hr⟩ := (show ObjOk X.prog X.w H s.heap dd (.xd fs) from I.hok dd _ ea)
  obtain ⟨od, ho, hl⟩ := lookIn_ns hns
  have J : PySem.W.InstAt s.heap a oe D (some od) := ⟨hget, hz.1, by unfold PySem.W.notCls; rw [hd] <;> rfl, by rw [hz.2]; exact ho⟩
  exact PySem.W.kia_one (PySem.W.xi_kitx T) I.kIn ⟨oe, od, J⟩ e (fun z => nomatch z) fun tk => ⟨.bl b, H, I.tok tk, rfl, q⟩
theorem w_isX {K : PySem.W.Frag} {D a : Addr} {d : Addr} {fs : List (Str × V)} {H : Hp} {Q : VK} {b : Bool} {C : Addr} (h : H d = some (.xd fs)) (k : PySem.W.kitOne K (.ref D) (.ref C) = some b) (q : Q (.bl b) H) : rIsX K D a (.ref D) (some d) [.ref a, .ref C] H Q :=
  ⟨.ref C, .ref C, b, d, fs, rfl, rfl, rfl, h, fun u r => r, k, q⟩
theorem w_isXT {K : PySem.W.Frag} {D a : Addr} {d : Addr} {fs : List (Str × V)} {H : Hp} {Q : VK} {b : Bool} {n : String} (h : H d = some (.xd fs)) (k : PySem.W.kitOne K (.ref D) (.type n) = some b) (q : Q (.bl b) H) : rIsX K D a (.ref D) (some d) [.ref a, .ty n] H Q :=
  ⟨.ty n, .type n, b, d, fs, rfl, rfl, rfl, h, fun u r => r, k, q⟩
/-- e.f in the suite: what is asked -/
def XfP (a : Addr) (cls : Value) (d : Option Addr) (C : Addr) (f : Str) (x : V) (H : Hp) (Q : VK) : Prop := x = .ref a ∧ cls = .ref C ∧ ∃ (dd : Addr) (fs : List (Str × V)) (v : V), d = some dd ∧ H dd = some (.xd fs) ∧ fs.lookup f = some v ∧ Q v H
theorem w_xf {a : Addr} {cls : Value} {d : Option Addr} {C : Addr} {f : Str} {te : TE} {σ : L2.St} {H : Hp} {Q : VK} (q : te σ H fun x H1 => XfP a cls d C f x H1 Q) : tXf a cls d C f te σ H Q := q
theorem k_xf {a d C : Addr} {f : Str} {v : V} {H : Hp} {Q : VK} (h : H d = some (.xd [(f, v)])) (q : Q v H) : XfP a (.ref C) (some d) C f (.ref a) H Q := ⟨rfl, rfl, d, _, v, rfl, h, by simp [List.lookup], q⟩
end L2.My

/-! W5: from what the head tells to what the walks ask. -/
namespace L2.My
open PySem PySem.Spec PyProof.Rows
theorem kit_eq {K : PySem.W.Frag} {t : Value} {C : Addr} (ic : PySem.W.isClsIn K C = true) (tc : PySem.W.typeIn K (.ref C) = some (.type "type")) : PySem.W.kitCls K t (.ref C) = PySem.W.subIn K t (.ref C) := by
  have e : ((PySem.W.clsIn K C).isSome && PySem.W.typeIn K (.ref C) == some (.type "type")) = true := by
    have h2' : (PySem.W.clsIn K C).isSome = true := ic
    rw [h2', tc] <;> rfl
  show (if ((PySem.W.clsIn K C).isSome && PySem.W.typeIn K (.ref C) == some (.type "type")) = true then PySem.W.subIn K t (.ref C) else none) = _
  rw [if_pos e]
theorem kit_ref {K : PySem.W.Frag} {t : Value} {C : Addr} (ic : PySem.W.isClsIn K C = true) (tc : PySem.W.typeIn K (.ref C) = some (.type "type")) (h : PySem.W.subIn K t (.ref C) = some true) : PySem.W.kitOne K t (.ref C) = some true := by
  unfold PySem.W.kitOne
  rw [kit_eq ic tc, h]
  split <;> rfl
theorem kit_ref0 {K : PySem.W.Frag} {t : Value} {C : Addr} (ic : PySem.W.isClsIn K C = true) (tc : PySem.W.typeIn K (.ref C) = some (.type "type")) (h : PySem.W.subIn K t (.ref C) = some false) (hn : (t == .ref C) = false) : PySem.W.kitOne K t (.ref C) = some false := by
  unfold PySem.W.kitOne
  rw [kit_eq ic tc, h, hn]
  rfl
theorem kit_type {K : PySem.W.Frag} {C : Addr} {T : String} {b : Bool} (km : PySem.W.kitMeta T = true) (h : PySem.W.subIn K (.ref C) (.type T) = some b) : PySem.W.kitOne K (.ref C) (.type T) = some b := by
  unfold PySem.W.kitOne
  have e : ((Value.ref C) == Value.type T) = false := rfl
  rw [e, if_neg Bool.false_ne_true]
  show (if PySem.W.kitMeta T = true then PySem.W.subIn K (.ref C) (.type T) else none) = some b
  rw [if_pos km, h]
theorem exm_mk {K : PySem.W.Frag} {S : Addr} (h1 : PySem.W.subIn K (.ref S) (.type "BaseException") = some true) (h2 : PySem.W.isClsIn K S = true) (h3 : PySem.W.typeIn K (.ref S) = some (.type "type")) (h4 : PySem.W.subIn K (.ref S) (.ref S) = some true) :
    PySem.W.exmOne K (.ref S) (.ref S) = some true := by
  have e1 : (PySem.W.subIn K (.ref S) (.type "BaseException") == some true) = true := by rw [h1] <;> rfl
  show (if (PySem.W.subIn K (.ref S) (.type "BaseException") == some true) = true then PySem.W.kitCls K (.ref S) (.ref S) else none) = some true
  rw [if_pos e1, kit_eq h2 h3, h4]
theorem ki_mk {K : PySem.W.Frag} {c : Addr} (ty : Cls K c) (ha : PySem.W.findIn K (.ref c) "__class__" = some (some (.builtin "object.__class__"))) (hm : PySem.W.mroIn K c (.type "object") = some true)
    (ic : PySem.W.isClsIn K c = true) (tc : PySem.W.typeIn K (.ref c) = some (.type "type")) (s1 : PySem.W.mroIn K c (.type "int") = some false) (s2 : PySem.W.mroIn K c (.type "bool") = some false) : KiT K c where
  ty := ty
  ha := ha
  hn := rfl
  htk := rfl
  hm := hm
  i := kit_type (by decide +kernel) s1
  b := kit_type (by decide +kernel) s2
  cc := by
    unfold PySem.W.kitOne
    have e : ((Value.ref c) == Value.ref c) = true := by simp
    rw [e, if_pos rfl]
  k1 := kit_ref0 ic tc rfl rfl
  k2 := kit_ref0 ic tc rfl rfl
  k3 := kit_ref0 ic tc rfl rfl
  k4 := kit_ref0 ic tc rfl rfl
  k5 := kit_ref0 ic tc rfl rfl
  k6 := kit_ref0 ic tc rfl rfl
  k7 := kit_ref0 ic tc rfl rfl
  n1 := rfl
  n2 := rfl
  n3 := rfl
  n4 := rfl
  n5 := rfl
  n6 := rfl
  n7 := rfl
  s1 := s1
  s2 := s2
theorem ref_ne {K : PySem.W.Frag} {a b : Addr} (h1 : PySem.W.mroIn K a (.ref a) = some true) (h2 : PySem.W.mroIn K a (.ref b) = some false) : (Value.ref a == Value.ref b) = false := by
  cases e : (Value.ref a == Value.ref b) with
  | false => rfl
  | true =>
    have : Value.ref a = Value.ref b := by simpa using e
    cases this
    rw [h1] at h2
    cases h2
theorem cx_no {P : Program} {w : World} {H : Hp} {s s' : Shared} {e : Value} (z : L2.CX P w [] H s (fun _ _ _ => False) e s') : False := by
  obtain ⟨_, _, _, _, _, _, _, _, _, _, _, _, h⟩ := z
  exact h
end L2.My

/-! W6: own + - * of instances and ints, both ways. -/
namespace L2.My
open PySem PySem.Spec PyProof.Rows PySem.SeqAt
open AutoSeq1 (wpAny_loadPart')
/-! ### own + - * of two instances, of one and an int, and of an int and one -/
theorem int_add_declines (b : Int) (u : Tok) (l C dx : Addr) :
    Meets (Builtin.«int.__add__» ⟨[.int b u, .ref l], []⟩) (fun _ R s => s.heap.get? l = some (PySem.W.instObj C dx) ∧ R (.ok (.ret .notImplemented)) s) :=
  .of_wp fun prog w A R s h => by obtain ⟨hp, g, d, tk, os⟩ := s; obtain ⟨hl, h⟩ := h; wp_walk using wpAny_loadPart' hl, wpAny_load hl; exact ⟨_, rfl, h⟩
theorem int_sub_declines (b : Int) (u : Tok) (l C dx : Addr) :
    Meets (Builtin.«int.__sub__» ⟨[.int b u, .ref l], []⟩) (fun _ R s => s.heap.get? l = some (PySem.W.instObj C dx) ∧ R (.ok (.ret .notImplemented)) s) :=
  .of_wp fun prog w A R s h => by obtain ⟨hp, g, d, tk, os⟩ := s; obtain ⟨hl, h⟩ := h; wp_walk using wpAny_loadPart' hl, wpAny_load hl; exact ⟨_, rfl, h⟩
theorem int_mul_declines (b : Int) (u : Tok) (l C dx : Addr) :
    Meets (Builtin.«int.__mul__» ⟨[.int b u, .ref l], []⟩) (fun _ R s => s.heap.get? l = some (PySem.W.instObj C dx) ∧ R (.ok (.ret .notImplemented)) s) :=
  .of_wp fun prog w A R s h => by obtain ⟨hp, g, d, tk, os⟩ := s; obtain ⟨hl, h⟩ := h; wp_walk using wpAny_loadPart' hl, wpAny_load hl; exact ⟨_, rfl, h⟩

/-- int op instance: the instance's own reflected def -/
theorem bin_refl {prog : Program} {w : World} {A : Around} {E : Value → Shared → Prop} {s : Shared} {K : PySem.W.Frag} {x C f g : Addr} {ox : Obj} {od : Option Obj} {op : Operator} {b : Int} {t : Tok} {id : String} {Q : Value → Shared → Prop}
    (X : K.In s.heap) (I : PySem.W.InstAt s.heap x ox C od) (sf : PySem.W.selfFirst K C = true) (hsub : PySem.W.subIn K (.ref C) (.type "int") = some false)
    (hg : PySem.W.findIn K (.ref C) (PySem.dunder op.info.2) = some (some (.ref g))) (hs : PySem.W.findIn K (.ref C) (PySem.dunderR op.info.2) = some (some (.ref f))) (hf : PySem.W.isFn K (.ref f) = true)
    (fi : fillsNumberSlot (.type "int") op.info.2 = pure true) (sl : Slot "int" (PySem.dunder op.info.2) id)
    (hd : ∀ Q' : Value → Shared → Prop, Q' .notImplemented s → wpAny (model prog w) A (call (.builtin id) [.int b t, .ref x]) Q' E s)
    (h : wpAny (model prog w) A (call (.ref f) [.ref x, .int b t]) (PySem.W.CmpBack Q) E s) : wpAny (model prog w) A (binaryOp op (.int b t) (.ref x)) Q E s := by
  obtain ⟨cd, rest, e1, e2⟩ := PySem.W.ksp_first sf
  have fC : PySem.W.Looks (model prog w) s.heap (fillsNumberSlot (.ref C) op.info.2) true := PySem.W.fills_K X e1 e2 hg
  have hne : (Value.type "int" == Value.ref C) = false := rfl
  have ti : s.TypeIs (.int b t) "int" := typeIs_int s b t
  have one : wpAny (model prog w) A (binaryOp1 op.info.2 (.int b t) (.ref x)) (fun r s' => ∃ v, r = some v ∧ Q v s') E s := by
    unfold binaryOp1
    refine wpAny_bind (wpAny_typeOf ti (wpAny_bind (I.type.here ?_)))
    rw [fi]
    refine wpAny_bind (wpAny_pure ?_)
    simp only [hne, Bool.false_eq_true, if_false]
    refine wpAny_bind (fC.here ?_)
    simp only [Bool.and_self, if_true]
    refine wpAny_bind ((PySem.W.looks_subIn X hsub).here ?_)
    simp only [Bool.false_eq_true, if_false, Bool.and_self, Bool.not_false, if_true]
    refine wpAny_bind ?_
    show wpAny _ _ (pure false) _ _ _
    refine wpAny_pure ?_
    simp only [Bool.false_eq_true, if_false]
    refine wpAny_bind (wpAny_tryMethod_declines ti sl (hd _ ⟨rfl, ?_⟩))
    refine wpAny_bind (wpAny_mono (PySem.W.ksp_try X I hs hf h) (fun r s' z => ?_) fun _ _ e => e)
    obtain ⟨v, rfl, hq⟩ := z
    exact wpAny_bind (wpAny_rule (wpAny_pure ⟨_, rfl, hq⟩))
  unfold binaryOp
  refine wpAny_holding ?_
  refine wpAny_bind (wpAny_mono one (fun r s' z => ?_) fun _ _ e => e)
  obtain ⟨v, rfl, hq⟩ := z
  exact wpAny_pure hq
section
variable {X : Cx} {C : Addr} {k k' j : Nat} {ps ps' : List Str} {sp spr : Sp} {E : XK} {m mr : Str}
/-- x op y, where one of both is an instance of C and the other one an instance of C or an int -/
def rOwnB (C : Addr) (sp spr : Sp) (E : XK) : R2 := fun x y H Q =>
  (∃ a dx fs, x = .ref a ∧ H a = some (.ins C dx fs) ∧ ((∃ i, y = .int i) ∨ ∃ a' dx' fs', y = .ref a' ∧ H a' = some (.ins C dx' fs')) ∧ sp [x, y] H Q E) ∨
  (∃ i a dx fs, x = .int i ∧ y = .ref a ∧ H a = some (.ins C dx fs) ∧ spr [y, x] H Q E)
/-- what an own operator needs of the class -/
structure OwnB (K : PySem.W.Frag) (C : Addr) : Prop where
  sf : PySem.W.selfFirst K C = true
  si : PySem.W.subIn K (.ref C) (.type "int") = some false
theorem op_ownB {op : Operator} {id : String} {fo ro : Option Value} (T : OwnB X.K C) (fi : fillsNumberSlot (.type "int") op.info.2 = pure true) (sl : Slot "int" (PySem.dunder op.info.2) id)
    (ef : PySem.W.findIn X.K (.type "int") (PySem.dunder op.info.2) = some fo) (er : PySem.W.findIn X.K (.type "int") (PySem.dunderR op.info.2) = some ro)
    (hd : ∀ {A : Around} {s : Shared} {E' : Value → Shared → Prop} (b : Int) (t : Tok) (l dx : Addr) (Q' : Value → Shared → Prop), s.heap.get? l = some (PySem.W.instObj C dx) → Q' .notImplemented s → wpAny (model X.prog X.w) A (call (.builtin id) [.int b t, .ref l]) Q' E' s)
    (h : HasM X.prog X.w X.K X.mg X.base C (PySem.dunder op.info.2) k ps sp) (h' : HasM X.prog X.w X.K X.mg X.base C (PySem.dunderR op.info.2) k' ps' spr) (hr : Room j X.A) (hx : Passes (L2.CX X.prog X.w) X E) (hj : k ≤ j := by decide) (hj' : k' ≤ j := by decide) :
    OpR X (binaryOp op) (rOwnB C sp spr E) := by
  obtain ⟨f, fd, Fo, hm, hb⟩ := h
  obtain ⟨f', fd', Fo', hm', hb'⟩ := h'
  intro pins s σ H x y v u Q I rx ry hh
  obtain ⟨m, hF⟩ := I.fr
  rcases hh with ⟨a, dx, fs, rfl, ha, hy, q⟩ | ⟨i, a, dx, fs, rfl, rfl, ha, q⟩
  · cases (show v = Value.ref a from rx)
    obtain ⟨mA, O, _⟩ := ins_get I.hok ha
    obtain ⟨od, J, _⟩ := O.look
    have cl : wpAny (model X.prog X.w) X.A (call (.ref f) [.ref a, u]) (PySem.W.CmpBack (EP X pins σ Q)) X.xe s := by
      refine wpAny_mono (run_fn Fo (hr.mono hj) hb .nil hx I (.cons rx (.cons ry .nil)) q) (fun w s' z => ?_) fun _ _ x => x
      obtain ⟨z', H', I', rz, qz⟩ := z
      exact SlX.cmpback rz ⟨z', H', I', rz, qz⟩
    rcases hy with ⟨i, rfl⟩ | ⟨a', dx', fs', rfl, ha'⟩
    · obtain ⟨t, rfl⟩ := (show ∃ t, u = Value.int i t from ry)
      exact PySem.W.ksp_binT hF I.ok.mod.kin J rfl T.sf hm.at_ hm.fn hm'.at_ (.inr ⟨_, rfl⟩) ef er rfl cl
    · cases (show u = Value.ref a' from ry)
      obtain ⟨mA', O', _⟩ := ins_get I.hok ha'
      obtain ⟨od', J', _⟩ := O'.look
      exact PySem.W.binop_K hF I.ok.mod.kin J J'.type T.sf hm.at_ hm.fn cl
  · obtain ⟨t, rfl⟩ := (show ∃ t, v = Value.int i t from rx)
    cases (show u = Value.ref a from ry)
    obtain ⟨mA, O, _⟩ := ins_get I.hok ha
    obtain ⟨od, J, _⟩ := O.look
    refine bin_refl I.kIn J T.sf T.si hm.at_ hm'.at_ hm'.fn fi sl (fun Q' hq => hd i t a dx Q' O.obj hq) ?_
    refine wpAny_mono (run_fn Fo' (hr.mono hj') hb' .nil hx I (.cons ry (.cons rx .nil)) q) (fun w s' z => ?_) fun _ _ x => x
    obtain ⟨z', H', I', rz, qz⟩ := z
    exact SlX.cmpback rz ⟨z', H', I', rz, qz⟩
theorem op_addB (T : OwnB X.K C) (h : HasM X.prog X.w X.K X.mg X.base C "__add__" k ps sp) (h' : HasM X.prog X.w X.K X.mg X.base C "__radd__" k' ps' spr) (hr : Room j X.A) (hx : Passes (L2.CX X.prog X.w) X E) (hj : k ≤ j := by decide) (hj' : k' ≤ j := by decide) :
    OpR X (binaryOp .Add) (rOwnB C sp spr E) :=
  op_ownB (op := .Add) T F.fills_int_add F.slot_int_add rfl rfl (fun b t l dx Q' hl hq => call_meets F.slot_int_add (typeIs_int _ b t) F.entry_int_add (F.args_int_add_2 _ _) (int_add_declines b t l C dx) ⟨hl, hq⟩) h h' hr hx hj hj'
theorem op_subB (T : OwnB X.K C) (h : HasM X.prog X.w X.K X.mg X.base C "__sub__" k ps sp) (h' : HasM X.prog X.w X.K X.mg X.base C "__rsub__" k' ps' spr) (hr : Room j X.A) (hx : Passes (L2.CX X.prog X.w) X E) (hj : k ≤ j := by decide) (hj' : k' ≤ j := by decide) :
    OpR X (binaryOp .Sub) (rOwnB C sp spr E) :=
  op_ownB (op := .Sub) T F.fills_int_sub F.slot_int_sub rfl rfl (fun b t l dx Q' hl hq => call_meets F.slot_int_sub (typeIs_int _ b t) F.entry_int_sub (by first | exact F.args_int_sub_2 _ _ | (unfold argsOk; kernel_rfl)) (int_sub_declines b t l C dx) ⟨hl, hq⟩) h h' hr hx hj hj'
theorem op_mulB (T : OwnB X.K C) (h : HasM X.prog X.w X.K X.mg X.base C "__mul__" k ps sp) (h' : HasM X.prog X.w X.K X.mg X.base C "__rmul__" k' ps' spr) (hr : Room j X.A) (hx : Passes (L2.CX X.prog X.w) X E) (hj : k ≤ j := by decide) (hj' : k' ≤ j := by decide) :
    OpR X (binaryOp .Mult) (rOwnB C sp spr E) :=
  op_ownB (op := .Mult) T F.fills_int_mul F.slot_int_mul rfl rfl (fun b t l dx Q' hl hq => call_meets F.slot_int_mul (typeIs_int _ b t) F.entry_int_mul (F.args_int_mul_2 _ _) (int_mul_declines b t l C dx) ⟨hl, hq⟩) h h' hr hx hj hj'
/-- x op y, where x is an instance of C and y is one or an int -/
def rOwnL (C : Addr) (sp : Sp) (E : XK) : R2 := fun x y H Q =>
  ∃ a dx fs, x = .ref a ∧ H a = some (.ins C dx fs) ∧ ((∃ i, y = .int i) ∨ ∃ a' dx' fs', y = .ref a' ∧ H a' = some (.ins C dx' fs')) ∧ sp [x, y] H Q E
theorem op_ownL {op : Operator} {fo ro : Option Value} (T : OwnB X.K C) (hrc : ∃ g, PySem.W.findIn X.K (.ref C) (PySem.dunderR op.info.2) = some (some (.ref g)))
    (ef : PySem.W.findIn X.K (.type "int") (PySem.dunder op.info.2) = some fo) (er : PySem.W.findIn X.K (.type "int") (PySem.dunderR op.info.2) = some ro)
    (h : HasM X.prog X.w X.K X.mg X.base C (PySem.dunder op.info.2) k ps sp) (hr : Room j X.A) (hx : Passes (L2.CX X.prog X.w) X E) (hj : k ≤ j := by decide) :
    OpR X (binaryOp op) (rOwnL C sp E) := by
  obtain ⟨f, fd, Fo, hm, hb⟩ := h
  obtain ⟨g, hg⟩ := hrc
  intro pins s σ H x y v u Q I rx ry hh
  obtain ⟨m, hF⟩ := I.fr
  obtain ⟨a, dx, fs, rfl, ha, hy, q⟩ := hh
  cases (show v = Value.ref a from rx)
  obtain ⟨mA, O, _⟩ := ins_get I.hok ha
  obtain ⟨od, J, _⟩ := O.look
  have cl : wpAny (model X.prog X.w) X.A (call (.ref f) [.ref a, u]) (PySem.W.CmpBack (EP X pins σ Q)) X.xe s := by
    refine wpAny_mono (run_fn Fo (hr.mono hj) hb .nil hx I (.cons rx (.cons ry .nil)) q) (fun w s' z => ?_) fun _ _ x => x
    obtain ⟨z', H', I', rz, qz⟩ := z
    exact SlX.cmpback rz ⟨z', H', I', rz, qz⟩
  rcases hy with ⟨i, rfl⟩ | ⟨a', dx', fs', rfl, ha'⟩
  · obtain ⟨t, rfl⟩ := (show ∃ t, u = Value.int i t from ry)
    exact PySem.W.ksp_binT hF I.ok.mod.kin J rfl T.sf hm.at_ hm.fn hg (.inr ⟨_, rfl⟩) ef er rfl cl
  · cases (show u = Value.ref a' from ry)
    obtain ⟨mA', O', _⟩ := ins_get I.hok ha'
    obtain ⟨od', J', _⟩ := O'.look
    exact PySem.W.binop_K hF I.ok.mod.kin J J'.type T.sf hm.at_ hm.fn cl
theorem op_addL (T : OwnB X.K C) (hrc : ∃ g, PySem.W.findIn X.K (.ref C) "__radd__" = some (some (.ref g))) (h : HasM X.prog X.w X.K X.mg X.base C "__add__" k ps sp) (hr : Room j X.A) (hx : Passes (L2.CX X.prog X.w) X E) (hj : k ≤ j := by decide) :
    OpR X (binaryOp .Add) (rOwnL C sp E) := op_ownL (op := .Add) T hrc rfl rfl h hr hx hj
theorem op_subL (T : OwnB X.K C) (hrc : ∃ g, PySem.W.findIn X.K (.ref C) "__rsub__" = some (some (.ref g))) (h : HasM X.prog X.w X.K X.mg X.base C "__sub__" k ps sp) (hr : Room j X.A) (hx : Passes (L2.CX X.prog X.w) X E) (hj : k ≤ j := by decide) :
    OpR X (binaryOp .Sub) (rOwnL C sp E) := op_ownL (op := .Sub) T hrc rfl rfl h hr hx hj
theorem op_mulL (T : OwnB X.K C) (hrc : ∃ g, PySem.W.findIn X.K (.ref C) "__rmul__" = some (some (.ref g))) (h : HasM X.prog X.w X.K X.mg X.base C "__mul__" k ps sp) (hr : Room j X.A) (hx : Passes (L2.CX X.prog X.w) X E) (hj : k ≤ j := by decide) :
    OpR X (binaryOp .Mult) (rOwnL C sp E) := op_ownL (op := .Mult) T hrc rfl rfl h hr hx hj
end
theorem w_ifx {t : TT} {ta tb : TE} {σ : L2.St} {H : Hp} {Q : VK} (q : t σ H fun c H1 => if c = true then ta σ H1 Q else tb σ H1 Q) : tIf t ta tb σ H Q := q
theorem w_truB {K : PySem.W.Frag} {b : Bool} {H : Hp} {Q : Bool → Hp → Prop} (q : Q b H) : ∃ k, TruV K (.bl b) H k ∧ Q k H := ⟨b, rfl, q⟩
theorem w_truI {K : PySem.W.Frag} {i : Int} {H : Hp} {Q : Bool → Hp → Prop} (q : Q (i != 0) H) : ∃ k, TruV K (.int i) H k ∧ Q k H := ⟨_, rfl, q⟩
/-! ### numbers that are not too great -/
def Bw (n : Nat) (x : Int) : Prop := x.natAbs < 2 ^ n
theorem Bw.mul {m n : Nat} {x y : Int} (hx : Bw m x) (hy : Bw n y) : Bw (m + n) (x * y) := by
  unfold Bw at *
  rw [Int.natAbs_mul, Nat.pow_add]
  exact Nat.mul_lt_mul'' hx hy
theorem Bw.mono {m n : Nat} {x : Int} (hx : Bw m x) (h : m ≤ n) : Bw n x := Nat.lt_of_lt_of_le hx (Nat.pow_le_pow_right (by decide) h)
theorem Bw.add {m n : Nat} {x y : Int} (hx : Bw m x) (hy : Bw n y) : Bw (max m n + 1) (x + y) := by
  have h1 := hx.mono (Nat.le_max_left m n)
  have h2 := hy.mono (Nat.le_max_right m n)
  unfold Bw at *
  rw [Nat.pow_succ]
  have := Int.natAbs_add_le x y
  omega
theorem Bw.neg {m : Nat} {x : Int} (hx : Bw m x) : Bw m (-x) := by unfold Bw at *; rw [Int.natAbs_neg]; exact hx
theorem Bw.sub {m n : Nat} {x y : Int} (hx : Bw m x) (hy : Bw n y) : Bw (max m n + 1) (x - y) := by rw [Int.sub_eq_add_neg]; exact hx.add hy.neg
theorem Bw.two : Bw 2 2 := by unfold Bw; decide
theorem Bw.zero : Bw 1 0 := by unfold Bw; decide
theorem Bw.one : Bw 1 1 := by unfold Bw; decide
theorem Bw.bd {n : Nat} {x : Int} (h : Bw n x) (hn : Nat.ble n 8000 = true) : Bd x := Nat.lt_of_lt_of_le h (Nat.pow_le_pow_right (by decide) (Nat.le_of_ble_eq_true hn))
theorem bwm {m n : Nat} {x y : Int} (hx : Bw m x) (hy : Bw n y) (h : (Nat.ble m 8000 && Nat.ble n 8000) = true) : CMulS x y := by
  simp only [Bool.and_eq_true] at h
  have hx := hx.bd h.1
  have hy := hy.bd h.2
  exact .inr (.inr (wide_mul hx hy (by decide) (by decide) (by decide)))
theorem bw_of {x : Int} {n k : Nat} (h : x.natAbs ≤ n) (hn : Nat.blt n (2 ^ k) = true) : Bw k x := Nat.lt_of_le_of_lt h (by simpa using hn)
end L2.My

/-! W7: math.isqrt of great numbers. -/
namespace L2.My
open PySem PySem.Spec PyProof.Rows
section
variable {X : Cx}
/-- the whole of the square root -/
def sqr (a : Int) : Int := ((Float64.isqrt a.toNat : Nat) : Int)
theorem sqr_spec {a : Int} (h : 0 ≤ a) : 0 ≤ sqr a ∧ sqr a * sqr a ≤ a ∧ a < (sqr a + 1) * (sqr a + 1) := by
  obtain ⟨h1, h2⟩ := Float64.isqrt_spec a.toNat
  have e : ((a.toNat : Nat) : Int) = a := by omega
  unfold sqr
  refine ⟨by omega, ?_, ?_⟩
  · have := Int.ofNat_le.mpr h1
    rw [Int.natCast_mul, e] at this
    exact this
  · have := Int.ofNat_lt.mpr h2
    rw [Int.natCast_mul, e] at this
    exact this
def rSq : List V → Hp → VK → Prop := fun vs H Q => ∃ a : Int, vs = [.int a] ∧ 0 ≤ a ∧ Bw 8000 a ∧ Q (.int (sqr a)) H
theorem cr_isqrt : CallR X (.builtin "math.isqrt") rSq := by
  intro pins s σ H vs us Q I r h
  obtain ⟨a, rfl, h0, hb, q⟩ := h
  cases r with
  | cons ra r =>
    cases r
    obtain ⟨t, rfl⟩ := ra
    have hl : a.toNat.log2 < 8000 := PySem.Flt.log2_lt_of (by decide) (by unfold Bw at hb; omega)
    have g := PySem.W.mg_run_isqrt a t (by omega) (by omega) (by omega)
    exact call_function_meets PySem.W.MGF.kind_isqrt PySem.W.MGF.plain_isqrt PySem.W.MGF.entry_isqrt (PySem.W.MGF.args_isqrt _) g.meets ⟨.int _, H, I.tok _, ⟨_, rfl⟩, q⟩
end
end L2.My

/-! W8: for a, b in zip(l, m). -/
namespace L2.My
open PySem PySem.Spec PyProof.Rows
section
variable {K : PySem.W.Frag} {σ : St} {H : Hp} {g : TG} {tb : TS} {D : Ends} {a b : Addr} {xs ys : List V} {ta : TA}
theorem for_zip (Pv : Nat → St → Hp → Prop) (h0 : Pv 0 σ H) (hl : ∀ i σ H, i ≤ xs.length → Pv i σ H → SqL K H a xs ∧ SqL K H b ys) (e : xs.length = ys.length)
    (hs : ∀ i x y σ H T H', xs[i]? = some x → ys[i]? = some y → Pv i σ H → H T = none → Same H H' → H' T = some (.tup [x, y]) → g (.ref T) σ H' fun σ2 H2 => tb ⟨Pv (i + 1), D.rt, D.nx, Pv (i + 1)⟩ σ2 H2) (hd : ∀ σ H, Pv xs.length σ H → D.nx σ H) :
    ∃ W : Nat → Nat → St → Hp → Prop, (∃ m, W 0 m σ H) ∧ ∀ i m σ H, W i m σ H → (Itz K a b).stop i H ∧ D.nx σ H ∨ (Itz K a b).go i H ∧ ∃ N, (∀ σ' H', N σ' H' → ∃ m', m' < m ∧ W (i + 1) m' σ' H') ∧
      ∀ x H', (Itz K a b).yld i H x H' → g x σ H' fun σ2 H2 => tb ⟨N, D.rt, D.nx, N⟩ σ2 H2 := by
  refine ⟨fun i m σ H => Pv i σ H ∧ m + i = xs.length, ⟨xs.length, h0, rfl⟩, fun i m σ H ⟨q, em⟩ => ?_⟩
  obtain ⟨l1, l2⟩ := hl i σ H (by omega) q
  rcases Nat.lt_or_ge i xs.length with h | h
  · right
    have ex : xs[i]? = some xs[i] := List.getElem?_eq_getElem h
    have ey : ys[i]? = some (ys[i]'(by omega)) := List.getElem?_eq_getElem (by omega)
    refine ⟨⟨xs, ys, _, _, l1, l2, ex, ey⟩, Pv (i + 1), fun σ' H' q' => ⟨m - 1, by omega, q', by omega⟩, ?_⟩
    rintro x H' ⟨T, x', y', rfl, hT, rfl, h1, h2⟩
    exact hs i x' y' σ H T _ (h1 xs l1) (h2 ys l2) q hT (Same.new hT) upd_same
  · left
    have : i = xs.length := by omega
    subst this
    exact ⟨⟨xs, ys, l1, l2, .inl (Nat.le_refl _)⟩, hd σ H q⟩
def ForZ (K : PySem.W.Frag) (g : TG) (tb : TS) (D : Ends) (σ : St) (vs : List V) (H : Hp) : Prop := tFor (iZip K fun _ H Q => Q vs H) g tb D σ H
theorem w_forZ (q : ta σ H fun vs H1 => ForZ K g tb D σ vs H1) : tFor (iZip K ta) g tb D σ H := q
theorem k_forZ {nx bk ct : L2.St → Hp → Prop} {rt : VK} (Pv : Nat → St → Hp → Prop) (hx : SqL K H a xs) (hy : SqL K H b ys) (e : xs.length = ys.length) (h0 : Pv 0 σ H) (hl : ∀ i σ H, Pv i σ H → SqL K H a xs ∧ SqL K H b ys)
    (hs : ∀ i x y σ H T H', xs[i]? = some x → ys[i]? = some y → Pv i σ H → H T = none → Same H H' → H' T = some (.tup [x, y]) → g (.ref T) σ H' fun σ2 H2 => tb ⟨Pv (i + 1), rt, nx, Pv (i + 1)⟩ σ2 H2) (hd : ∀ σ H, Pv xs.length σ H → nx σ H) :
    ForZ K g tb ⟨nx, rt, bk, ct⟩ σ [.ref a, .ref b] H :=
  ⟨a, b, xs, ys, rfl, hx, hy, for_zip (D := ⟨nx, rt, bk, ct⟩) Pv h0 (fun i σ H _ q => hl i σ H q) e hs hd⟩
theorem ix_seqZ {X : Cx} {K : PySem.W.Frag} (h : X.K = K) : IxR X (rIx K) := h ▸ ix_seq
end
end L2.My

/-! W9: plain things, tuples of ints, data of any depth, all(), slices and sums of tuples. -/
namespace L2.My
open PySem PySem.Spec PyProof.Rows
/-- a thing that is no instance -/
inductive Plain (H : Hp) : V → Prop
  | non : Plain H .non
  | bl (b : Bool) : Plain H (.bl b)
  | int (i : Int) : Plain H (.int i)
  | str (s : Str) : Plain H (.str s)
  | lst (a : Addr) (xs : List V) (e : H a = some (.lst xs)) : Plain H (.ref a)
  | tup (a : Addr) (xs : List V) (e : H a = some (.tup xs)) : Plain H (.ref a)
  | dK (a : Addr) (kvs : List (L2.Key × V)) (e : H a = some (.dK kvs)) : Plain H (.ref a)
theorem Plain.same {H H' : Hp} {v : V} (h : Plain H v) (s : Same H H') : Plain H' v := by
  cases h with
  | non => exact .non
  | bl b => exact .bl b
  | int i => exact .int i
  | str s => exact .str s
  | lst a xs e => exact .lst a xs (s _ _ e)
  | tup a xs e => exact .tup a xs (s _ _ e)
  | dK a xs e => exact .dK a xs (s _ _ e)
theorem Plain.th {c : Addr} {H : Hp} {v : V} (h : Plain H v) : Th c H v := by
  cases h with
  | non => exact .non
  | bl b => exact .bl b
  | int i => exact .int i
  | str s => exact .str s
  | lst a xs e => exact .lst a xs e
  | tup a xs e => exact .tup a xs e
  | dK a xs e => exact .dK a xs e
def isTu (H : Hp) : V → Bool
  | .ref a => match H a with
    | some (.tup _) => true
    | _ => false
  | _ => false
theorem isTu_tup {H : Hp} {a : Addr} {xs : List V} (e : H a = some (.tup xs)) : isTu H (.ref a) = true := by
  show (match H a with | some (.tup _) => true | _ => false) = true
  rw [e]
theorem isTu_lst {H : Hp} {a : Addr} {xs : List V} (e : H a = some (.lst xs)) : isTu H (.ref a) = false := by
  show (match H a with | some (.tup _) => true | _ => false) = false
  rw [e]
theorem isTu_dK {H : Hp} {a : Addr} {xs : List (L2.Key × V)} (e : H a = some (.dK xs)) : isTu H (.ref a) = false := by
  show (match H a with | some (.tup _) => true | _ => false) = false
  rw [e]
theorem Plain.ty {K : PySem.W.Frag} {H : Hp} {v : V} (h : Plain H v) : ∃ t, TyX K H v t ∧ PySem.W.kitOne K t (.type "int") = some (isI v || isB v) ∧ PySem.W.kitOne K t (.type "bool") = some (isB v) ∧ PySem.W.kitOne K t (.type "tuple") = some (isTu H v) := by
  have kb : ∀ (a b : String) (r : Bool), kitB a b = some r → PySem.W.kitOne K (.type a) (.type b) = some r := fun _ _ _ h => kit_ty h
  cases h with
  | non => exact ⟨_, .base .non, kb "NoneType" "int" false (by decide +kernel), kb "NoneType" "bool" false (by decide +kernel), kb "NoneType" "tuple" false (by decide +kernel)⟩
  | bl b => exact ⟨_, .base (.bl b), kb "bool" "int" true (by decide +kernel), kb "bool" "bool" true (by decide +kernel), kb "bool" "tuple" false (by decide +kernel)⟩
  | int i => exact ⟨_, .base (.int i), kb "int" "int" true (by decide +kernel), kb "int" "bool" false (by decide +kernel), kb "int" "tuple" false (by decide +kernel)⟩
  | str s => exact ⟨_, .base (.str s), kb "str" "int" false (by decide +kernel), kb "str" "bool" false (by decide +kernel), kb "str" "tuple" false (by decide +kernel)⟩
  | lst a xs e => exact ⟨_, .base (.lst e), kb "list" "int" false (by decide +kernel), kb "list" "bool" false (by decide +kernel), by rw [isTu_lst e]; exact kb "list" "tuple" false (by decide +kernel)⟩
  | tup a xs e => exact ⟨_, .base (.tup e), kb "tuple" "int" false (by decide +kernel), kb "tuple" "bool" false (by decide +kernel), by rw [isTu_tup e]; exact kb "tuple" "tuple" true (by decide +kernel)⟩
  | dK a xs e => exact ⟨_, .base (.dK e), kb "dict" "int" false (by decide +kernel), kb "dict" "bool" false (by decide +kernel), by rw [isTu_dK e]; exact kb "dict" "tuple" false (by decide +kernel)⟩
section
variable {K : PySem.W.Frag} {σ : L2.St} {H : Hp} {Q : VK} {a b : Addr} {xs ys : List V} {te : TE} {ws : List Nat} {g : TG} {tt : TT} {v : V}
/-- a raised class that a clause's class is no base of -/
theorem exm_no {K : PySem.W.Frag} {S D : Addr} (h1 : PySem.W.mroIn K D (.type "BaseException") = some true) (h2 : PySem.W.isClsIn K D = true) (h3 : PySem.W.typeIn K (.ref D) = some (.type "type")) (h4 : PySem.W.mroIn K S (.ref D) = some false) :
    PySem.W.exmOne K (.ref S) (.ref D) = some false := by
  have e1 : (PySem.W.subIn K (.ref D) (.type "BaseException") == some true) = true := by
    have : PySem.W.subIn K (.ref D) (.type "BaseException") = some true := h1
    rw [this] <;> rfl
  show (if (PySem.W.subIn K (.ref D) (.type "BaseException") == some true) = true then PySem.W.kitCls K (.ref S) (.ref D) else none) = some false
  rw [if_pos e1, kit_eq h2 h3]
  exact h4
theorem w_all {bs : List Bool} (h : SqL K H a (bs.map V.bl)) (q : Q (.bl (bs.all id)) H) : rAll K [.ref a] H Q := ⟨a, bs, rfl, h, q⟩
/-- a slice of a tuple that is not the whole -/
theorem k_slT {lo hi : Option Int} (h : H a = some (.tup xs)) (n : ¬ (HT.sIx xs.length 0 lo = 0 ∧ HT.sIx xs.length xs.length hi = xs.length)) (q : ∀ p H2, H p = none → Same H H2 → H2 p = some (.tup (cutV xs lo hi)) → Q (.ref p) H2) : SlP (rSlA K) (.ref a) lo hi H Q :=
  ⟨a, xs, rfl, SqT.of h, fun z => absurd z n, fun _ p hp => q p _ hp (Same.new hp) upd_same⟩
/-- t + u, both not empty -/
theorem w_catT (h1 : H a = some (.tup xs)) (h2 : H b = some (.tup ys)) (n1 : xs ≠ []) (n2 : ys ≠ []) (hl : Nat.ble (xs.length + ys.length) 1000 = true) (q : ∀ p H2, H p = none → Same H H2 → H2 p = some (.tup (xs ++ ys)) → Q (.ref p) H2) : rCatA K (.ref a) (.ref b) H Q :=
  ⟨a, b, xs, ys, rfl, rfl, SqT.of h1, SqT.of h2, sz1000 (Nat.le_of_ble_eq_true hl), fun z => absurd z n1, fun _ z => absurd z n2, fun _ _ p hp => q p _ hp (Same.new hp) upd_same⟩
/-- t + u, any -/
theorem w_catA (h1 : H a = some (.tup xs)) (h2 : H b = some (.tup ys)) (hl : Nat.ble (xs.length + ys.length) 1000 = true) (q : ∀ p H2, Same H H2 → H2 p = some (.tup (xs ++ ys)) → Q (.ref p) H2) : rCatA K (.ref a) (.ref b) H Q :=
  ⟨a, b, xs, ys, rfl, rfl, SqT.of h1, SqT.of h2, sz1000 (Nat.le_of_ble_eq_true hl), fun z => q b H (Same.refl _) (by rw [h2, z, List.nil_append]), fun _ z => q a H (Same.refl _) (by rw [h1, z, List.append_nil]), fun _ _ p hp => q p _ (Same.new hp) upd_same⟩
theorem k_slA {lo hi : Option Int} (h : H a = some (.tup xs)) (q : ∀ p H2, Same H H2 → H2 p = some (.tup (cutV xs lo hi)) → Q (.ref p) H2) : SlP (rSlA K) (.ref a) lo hi H Q :=
  ⟨a, xs, rfl, SqT.of h, fun z => q a H (Same.refl _) (by
    have : cutV xs lo hi = xs := by
      unfold cutV
      rw [z.1, z.2, List.drop_zero, Nat.sub_zero, List.take_length]
    rw [h, this]), fun _ p hp => q p _ (Same.new hp) upd_same⟩
/-- [..] * k -/
theorem w_rep {k : Int} (h : H a = some (.lst xs)) (k0 : -(2 ^ 63) ≤ k) (k1 : k < 2 ^ 63) (hl : Nat.ble (xs.length * k.toNat) 1000 = true) (q : ∀ p H2, H p = none → Same H H2 → H2 p = some (.lst (List.replicate k.toNat xs).flatten) → Q (.ref p) H2) : rRep (.ref a) (.int k) H Q :=
  ⟨a, k, xs, rfl, rfl, h, k0, k1, sz1000 (Nat.le_of_ble_eq_true hl), fun p hp => q p _ hp (Same.new hp) upd_same⟩
/-- tuple(list) -/
def rTupOf (K : PySem.W.Frag) : List V → Hp → VK → Prop := fun xs H Q => ∃ p ys, xs = [.ref p] ∧ ((SqL K H p ys ∧ ∀ l, H l = none → Q (.ref l) (upd H l (.tup ys))) ∨ (SqT K H p ys ∧ Q (.ref p) H))
theorem cn_tuple {X : Cx} : CallR X (.type "tuple") (rTupOf X.K) := call_tuple_of
theorem w_tupL (h : H a = some (.lst xs)) (q : ∀ p H2, H p = none → Same H H2 → H2 p = some (.tup xs) → Q (.ref p) H2) : rTupOf K [.ref a] H Q := ⟨a, xs, rfl, .inl ⟨SqL.of h, fun l hl => q l _ hl (Same.new hl) upd_same⟩⟩
/-- xs.append(y) -/
theorem w_append {l : Addr} {y : V} (h : H l = some (.lst xs)) (hl : xs.length < 1000) (q : ∀ H2, SameX l H H2 → H2 l = some (.lst (xs ++ [y])) → Q .non H2) : rAppend (.ref l) [y] H Q :=
  ⟨l, xs, y, rfl, rfl, h, Nat.lt_of_lt_of_le hl (by decide), q _ (SameX.upd fun _ _ _ e => e) upd_same⟩
/-- a, b, c, d = t -/
theorem k_tup4 {T : Addr} {x y z u : V} {σ' : L2.St} {i j k l : Nat} {N : L2.St → Hp → Prop} {n : Nat} (hT : H T = some (.tup [x, y, z, u])) (hn : n = 4) (hσ : (((σ.set i (some x)).set j (some y)).set k (some z)).set l (some u) = σ') (q : N σ' H) :
    gTup K n (gCons (gName i) (gCons (gName j) (gCons (gName k) (gCons (gName l) gNil)))) (.ref T) σ H N := by
  subst hσ
  exact ⟨T, [x, y, z, u], rfl, SqT.of hT, by rw [hn]; rfl, x, [y, z, u], rfl, y, [z, u], rfl, z, [u], rfl, u, [], rfl, rfl, q⟩
theorem k_tupl2 {T : Addr} {x y : V} {σ' : L2.St} {i j : Nat} {N : L2.St → Hp → Prop} {n : Nat} (hT : H T = some (.tup [x, y])) (hn : n = 2) (hσ : (σ.set i (some x)).set j (some y) = σ') (q : N σ' H) : gTup K n (gCons (gName i) (gCons (gName j) gNil)) (.ref T) σ H N := by
  subst hσ
  exact ⟨T, [x, y], rfl, SqT.of hT, by rw [hn]; rfl, x, [y], rfl, y, [], rfl, rfl, q⟩
/-- a comprehension over a tuple whose turns tell flags and change nothing -/
theorem k_lcFlags {f : V → Bool} {slot : Nat} (h : H a = some (.tup xs)) (hl : xs.length ≤ 500) (hw : ∀ x, wipe ((wipe σ ws).set slot (some x)) ws = wipe σ ws)
    (turn : ∀ x H', x ∈ xs → Same H H' → ∀ N : VK, N (.bl (f x)) H' → te ((wipe σ ws).set slot (some x)) H' N)
    (hd : ∀ D H', H D = none → Same H H' → H' D = some (.lst ((xs.map f).map V.bl)) → Q (.ref D) H') : CompT K (gName slot) tYes te ws σ (.ref a) H Q := by
  refine ⟨a, rfl, ⟨_, SqT.of h⟩, fun D hD => lc_tup (xs := xs) (fun i H' => Same H H' ∧ H' D = some (.lst (((xs.take i).map f).map V.bl))) ⟨Same.new hD, upd_same⟩ (fun i H' _ e => SqT.of (e.1 _ _ h)) (fun i x H' hx e => ?_) (fun H' e => ?_)⟩
  · have hi : i < xs.length := (List.getElem?_eq_some_iff.mp hx).1
    obtain rfl : xs[i] = x := by rw [List.getElem?_eq_getElem hi] at hx; exact Option.some.inj hx
    refine ⟨hw _, ?_⟩
    refine w_yes (w_T rfl ?_)
    refine turn _ H' (List.getElem_mem hi) e.1 _ ?_
    refine ⟨_, e.2, by rw [List.length_map, List.length_map, List.length_take]; exact sz_lt (by omega), fun b o eb => ?_, ?_⟩
    · rw [upd_ne (ne_of_none eb hD)]
      exact e.1 b o eb
    · have e2 : xs.take (i + 1) = xs.take i ++ [xs[i]] := by rw [List.take_add_one, List.getElem?_eq_getElem hi]; rfl
      rw [upd_same, e2, List.map_append, List.map_append]
      rfl
  · have e2 := e.2
    rw [List.take_length] at e2
    exact hd D H' hD e.1 e2
theorem w_lcTT {tl : TE} (q : tl σ H fun x H1 => CompT K g tt te ws σ x H1 Q) : tLc (iTup K tl) g tt te ws σ H Q := q
/-- a thing of data, not deep -/
structure Data (K : PySem.W.Frag) (H : Hp) (v : V) (d : PyData) : Prop where
  dp : Dp K H v d
  lay : d.canLay0 = true
  dep : d.depth ≤ 10
theorem sqL_same {H H' : Hp} {a : Addr} {xs : List V} (h : H a = some (.lst xs)) (s : Same H H') : SqL K H' a xs := SqL.of (s _ _ h)
theorem eq_same {d : PyData} (h : d.canLay0 = true) : PyData.eqv d d = true := SeqAt.eqv_refl d h
end
/-! ### zip of two tuples -/
section
variable {K : PySem.W.Frag} {σ : St} {H : Hp} {g : TG} {tb : TS} {D : Ends} {a b : Addr} {xs ys : List V} {ta : TA}
def ForZT (K : PySem.W.Frag) (g : TG) (tb : TS) (D : Ends) (σ : St) (vs : List V) (H : Hp) : Prop := tFor (RZ.iZipA K fun _ H Q => Q vs H) g tb D σ H
theorem w_forZT (q : ta σ H fun vs H1 => ForZT K g tb D σ vs H1) : tFor (RZ.iZipA K ta) g tb D σ H := q
theorem for_zipT (Pv : Nat → St → Hp → Prop) (h0 : Pv 0 σ H) (hl : ∀ i σ H, i ≤ xs.length → Pv i σ H → SqT K H a xs ∧ SqT K H b ys) (e : xs.length = ys.length)
    (hs : ∀ i x y σ H T H', xs[i]? = some x → ys[i]? = some y → Pv i σ H → H T = none → Same H H' → H' T = some (.tup [x, y]) → g (.ref T) σ H' fun σ2 H2 => tb ⟨Pv (i + 1), D.rt, D.nx, Pv (i + 1)⟩ σ2 H2) (hd : ∀ σ H, Pv xs.length σ H → D.nx σ H) :
    ∃ W : Nat → Nat → St → Hp → Prop, (∃ m, W 0 m σ H) ∧ ∀ i m σ H, W i m σ H → (RZ.ItzT K a b).stop i H ∧ D.nx σ H ∨ (RZ.ItzT K a b).go i H ∧ ∃ N, (∀ σ' H', N σ' H' → ∃ m', m' < m ∧ W (i + 1) m' σ' H') ∧
      ∀ x H', (RZ.ItzT K a b).yld i H x H' → g x σ H' fun σ2 H2 => tb ⟨N, D.rt, D.nx, N⟩ σ2 H2 := by
  refine ⟨fun i m σ H => Pv i σ H ∧ m + i = xs.length, ⟨xs.length, h0, rfl⟩, fun i m σ H ⟨q, em⟩ => ?_⟩
  obtain ⟨l1, l2⟩ := hl i σ H (by omega) q
  rcases Nat.lt_or_ge i xs.length with h | h
  · right
    have ex : xs[i]? = some xs[i] := List.getElem?_eq_getElem h
    have ey : ys[i]? = some (ys[i]'(by omega)) := List.getElem?_eq_getElem (by omega)
    refine ⟨⟨xs, ys, _, _, l1, l2, ex, ey⟩, Pv (i + 1), fun σ' H' q' => ⟨m - 1, by omega, q', by omega⟩, ?_⟩
    rintro x H' ⟨T, x', y', rfl, hT, rfl, h1, h2⟩
    exact hs i x' y' σ H T _ (h1 xs l1) (h2 ys l2) q hT (Same.new hT) upd_same
  · left
    have : i = xs.length := by omega
    subst this
    exact ⟨⟨xs, ys, l1, l2, .inl (Nat.le_refl _)⟩, hd σ H q⟩
theorem k_forZT {nx bk ct : L2.St → Hp → Prop} {rt : VK} (Pv : Nat → St → Hp → Prop) (hx : H a = some (.tup xs)) (hy : H b = some (.tup ys)) (e : xs.length = ys.length) (h0 : Pv 0 σ H) (hl : ∀ i σ H, Pv i σ H → SqT K H a xs ∧ SqT K H b ys)
    (hs : ∀ i x y σ H T H', xs[i]? = some x → ys[i]? = some y → Pv i σ H → H T = none → Same H H' → H' T = some (.tup [x, y]) → g (.ref T) σ H' fun σ2 H2 => tb ⟨Pv (i + 1), rt, nx, Pv (i + 1)⟩ σ2 H2) (hd : ∀ σ H, Pv xs.length σ H → nx σ H) :
    ForZT K g tb ⟨nx, rt, bk, ct⟩ σ [.ref a, .ref b] H :=
  ⟨a, b, xs, ys, rfl, .inr ⟨SqT.of hx, SqT.of hy, for_zipT (D := ⟨nx, rt, bk, ct⟩) Pv h0 (fun i σ H _ q => hl i σ H q) e hs hd⟩⟩
end
/-- what is no list stays -/
def Kps (H H' : Hp) : Prop := ∀ b o, (∀ xs, o ≠ .lst xs) → H b = some o → H' b = some o
theorem Kps.refl (H : Hp) : Kps H H := fun _ _ _ h => h
theorem Kps.trans {A B C : Hp} (h : Kps A B) (k : Kps B C) : Kps A C := fun b o n e => k b o n (h b o n e)
theorem Kps.same {A B : Hp} (h : Same A B) : Kps A B := fun b o _ e => h b o e
theorem Kps.sx {A B : Hp} {l : Addr} {ys : List V} (hl : A l = some (.lst ys)) (h : SameX l A B) : Kps A B := fun b o n e => h b o (ne_of e hl (n _)) e
theorem Kps.st {A B : Hp} {st sc : Addr} (hs : StA A st sc) (h : SameX st A B) : Kps A B := fun b o n e => h b o (hs.ne e n) e
theorem Kps.tup {A B : Hp} (h : Kps A B) {a : Addr} {xs : List V} (e : A a = some (.tup xs)) : B a = some (.tup xs) := h _ _ (by intro xs z; cases z) e
/-! ### xs.append(e), a <= b <= c -/
def LBm (K : PySem.W.Frag) (x : V) (H : Hp) (N : Prop) : Prop := tyV K "list" x H ∧ N
theorem w_bm {K : PySem.W.Frag} {r : V → List V → Hp → VK → Prop} {to : TE} {t : TA} {σ : L2.St} {H : Hp} {Q : VK} (q : to σ H fun x H1 => LBm K x H1 (t σ H1 fun xs H2 => r x xs H2 Q)) : tBM K "list" r to t σ H Q := q
theorem k_bm {K : PySem.W.Frag} {a : Addr} {xs : List V} {H : Hp} {N : Prop} (h : H a = some (.lst xs)) (q : N) : LBm K (.ref a) H N := ⟨.inl ⟨rfl, _, SqL.of h⟩, q⟩
theorem w_chain {r r' : R2} {ta tb tc : TE} {σ : L2.St} {H : Hp} {Q : VK} (q : ta σ H fun x H1 => tb σ H1 fun y H2 => r x y H2 fun z H3 => ∃ k, z = .bl k ∧ (if k = true then tc σ H3 fun w' H4 => r' y w' H4 Q else Q (.bl false) H3)) : tChain r r' ta tb tc σ H Q := q
/-- o.m(e, ..) where the fragment is told: a suite's context bears the caught error, its fragment is the same -/
theorem pe_bmZ {X : Cx} {K : PySem.W.Frag} {o e : Expr} {es : List Expr} {to : TE} {t : TA} {m : Str} {ap cp : Pos} {T id : String} {r : V → List V → Hp → VK → Prop} (hK : X.K = K)
    (pa : PlainAttrs T) (sl : Slot T m id) (ht : typeOf (.builtin id) = pure (.type "method_descriptor")) (hm : MtR X id r) (ho : PE X o to) (ha : PA X (e :: es) t)
    (h1 : attributeBase o m X.env (eval o X.env) = eval o X.env := by rfl)
    (h2 : ((backTo cp (starEach (e :: es) X.env)).all (fun x => !x.1) && (backToKw cp (keywordEach [] X.env)).all (fun x => x.1.isSome) && decide ((e :: es).length + ([] : List Keyword).length + (if ([] : List Keyword).isEmpty then 0 else 1) < 30)) = true := by rfl)
    (h3 : (ap.endLine == cp.line) = true := by rfl) (h4 : starEach (e :: es) X.env = (false, eval e X.env) :: starEach es X.env := by rfl) (h5 : (backTo cp (starEach es X.env)).any (·.1) = false := by rfl) :
    PE X (.Call (.Attribute o m ap) (e :: es) [] cp) (tBM K T r to t) := by
  subst hK
  exact pe_bm pa sl ht hm ho ha h1 h2 h3 h4 h5
end L2.My

/-! W10: xs[i] += e; == of two lists of the same things; try with several clauses 'except C as n'. -/
namespace L2.My
open PySem PySem.Spec PyProof.Rows
section
variable {X : Cx} {H : Hp} {Q : VK} {a b : Addr} {xs : List V}
/-- the read of xs[i] += e -/
def rGetL : R2 := fun o i H Q => ∃ p ys k v, o = .ref p ∧ i = .int k ∧ H p = some (.lst ys) ∧ 0 ≤ k ∧ atI ys k = some v ∧ Q v H
theorem get_list : PGet X rGetL := by
  intro pins s σ H o i ov iv Q I ro ri ⟨p, ys, k, v, eo, ei, hp, k0, hv, q⟩
  subst eo ei
  cases ro
  obtain ⟨tk, rfl⟩ := ri
  obtain ⟨its, rv, pl, sz⟩ := I.list (SqL.of hp)
  obtain ⟨j, j1, j2, j3, -, j5⟩ := atI_get hv
  obtain ⟨w, ew, rw'⟩ := rv.get j2
  have big := line63
  have ej : k.toNat = j := by
    have j1' := j1
    rw [seqIndex_of k0 j5] at j1'
    exact Option.some.inj j1'
  exact wpAny_getItem_list pl.isList k0 (by omega) (by rw [ej]; simpa using ew) ⟨v, H, I, rw', q⟩
theorem w_getL {k : Int} {v : V} (h : H a = some (.lst xs)) (k0 : 0 ≤ k) (e : atI xs k = some v) (q : Q v H) : rGetL (.ref a) (.int k) H Q := ⟨a, xs, k, v, rfl, rfl, h, k0, e, q⟩
theorem w_augS {to ti te : TE} {tget : V → V → Hp → VK → Prop} {tip : TIp} {tset : TSet} {σ : L2.St} {H : Hp} {nx bk ct : L2.St → Hp → Prop} {rt : VK}
    (q : to σ H fun o H1 => ti σ H1 fun i H2 => tget o i H2 fun x H3 => te σ H3 fun y H4 => tip x y H4 fun z H5 => tset o i z H5 fun H6 => nx σ H6) : tAugS to ti te tget tip tset ⟨nx, rt, bk, ct⟩ σ H := q
/-- both sides are lists of the same objects, one by one -/
def rEqIds : R2 := fun x y H Q => ∃ (l m : Addr) (as : List Addr), x = .ref l ∧ y = .ref m ∧ H l = some (.lst (as.map V.ref)) ∧ H m = some (.lst (as.map V.ref)) ∧ Q (.bl true) H
theorem refs_same {as : List Addr} : ∀ {us us' : List Value}, Vals (as.map V.ref) us → Vals (as.map V.ref) us' → us = us' := by
  induction as with
  | nil => intro us us' h h'; cases h; cases h'; rfl
  | cons p as ih =>
    intro us us' h h'
    cases h with
    | cons r t =>
      cases h' with
      | cons r' t' =>
        cases r
        cases r'
        rw [ih t t']
theorem op_eqIds (hu : X.A.units < cLine) : OpR X (compareOp .Eq) rEqIds := by
  intro pins s σ H x y v u Q I rx ry ⟨l, m, as, ex, ey, hl, hm, q⟩
  subst ex ey
  cases rx
  cases ry
  obtain ⟨its, rv, pl, -⟩ := I.list (SqL.of hl)
  obtain ⟨its', rv', pl', -⟩ := I.list (SqL.of hm)
  obtain rfl := refs_same rv rv'
  refine SeqAt.eq_listAt (e := fun _ => true) pl.isList pl'.isList rfl hu (fun j h1 h2 => SeqAt.EqAt.same _) ?_
  rw [show (List.range its.toArray.size).all (fun _ => true) = true from List.all_eq_true.mpr fun _ _ => rfl]
  exact ⟨.bl true, H, I, rfl, q⟩
theorem w_eqIds {as : List Addr} (h1 : H a = some (.lst (as.map V.ref))) (h2 : H b = some (.lst (as.map V.ref))) (q : Q (.bl true) H) : rEqIds (.ref a) (.ref b) H Q := ⟨a, b, as, rfl, rfl, h1, h2, q⟩
end
/-! ### several clauses 'except C as n' -/
/-- one clause: the class, the name's slot, the suite's reading -/
structure Clause where
  c : Value
  i : Nat
  ts : Addr → Value → Option Addr → TS
/-- the ends of a suite whose name goes behind it -/
def goneE (D : Ends) (i : Nat) : Ends := { nx := fun σ H => D.nx (σ.set i none) H, rt := D.rt, bk := fun σ H => D.bk (σ.set i none) H, ct := fun σ H => D.ct (σ.set i none) H }
def wClauses (K : PySem.W.Frag) (Wo : WX) (D : Ends) : List Clause → WX
  | [] => Wo
  | k :: r => fun cls d σ H => ∃ b, PySem.W.exmOne K cls k.c = some b ∧ (b = true → ∀ a, H a = none → k.ts a cls d (goneE D k.i) (σ.set k.i (some (.ref a))) H) ∧ (b = false → wClauses K Wo D r cls d σ H)
inductive ClausesOk (X : Cx) : List ExceptHandler → List Clause → Prop
  | nil : ClausesOk X [] []
  | cons {x n : Str} {c : Value} {i : Nat} {ts : Addr → Value → Option Addr → TS} {st : Stmt} {sts : List Stmt} {np hp : Pos} {hs : List ExceptHandler} {ks : List Clause} (nd : X.N.Nodup) (at_ : X.N[i]? = some n) (loc : X.env.kindOf n = some .local) (nm : Names X x c)
      (su : ∀ (a : Addr) (oe : Obj) (cls : Value) (d : Option Addr) (pn : List (Addr × Obj)), Zc cls d oe → (∃ vs, oe.data = .fields vs) → PSs (X.suite a ((a, oe) :: pn)) (st :: sts) (ts a cls d)) (more : ClausesOk X hs ks) :
      ClausesOk X (.ExceptHandler (some (.Name x np)) (some n) (st :: sts) hp :: hs) (⟨c, i, ts⟩ :: ks)
section
variable {X : Cx} {body : List Stmt} {h0 : ExceptHandler} {hs : List ExceptHandler} {ks : List Clause} {pos : Pos} {tb : WX → TS} {Wo : WX}
theorem ps_try_clauses (stk : X.stack = X.env :: X.outer) (frm : X.env.frame = some X.env.locals) (tk : Takes X Wo)
    (bd : ∀ (W : WX) (pn : List (Addr × Obj)) (xe : Value → Shared → Prop), Takes (X.tr pn xe) W → PassesOwn (model X.prog X.w) X.A X.env xe → PSs (X.tr pn xe) body (tb W)) (cl : ClausesOk X (h0 :: hs) ks) :
    PS X (.Try body (h0 :: hs) [] [] pos) (fun D σ H => tb (wClauses X.K Wo D ks) D σ H) := by
  refine ⟨fun pins s σ H D I wish => wpAny_Try_except ?_⟩
  have good := I.ok
  have frs0 : X.A.frames = some (X.env :: X.outer) := good.frames.trans (by rw [stk])
  refine wpAny_mono ((bd (wClauses X.K Wo D ks) (X.pn ++ pins) (fun e s1 => wpAny (model X.prog X.w) X.A (noteFrame e X.env) (fun _ s2 => wpAny (model X.prog X.w) X.A (setFlight e none) (fun _ s3 => wpAny (model X.prog X.w) X.A (handleBy e X.env (h0 :: hs)) (SP X pins D) X.xe s3) X.xe s2) X.xe s1)
    (fun u s1 air => ?_) PassesOwn.looking).run [] s σ H D (I.toTry _) wish) (fun f s1 out => ?_) (fun _ _ z => z)
  · obtain ⟨a, B, s0, pins1, σ1, H1, cls, d, rfl, J0, ground, upTo, sky0, free, sameOs, bare, wants⟩ := air
    have J : Inv X pins σ1 H1 s0 := J0.ofTry good
    rw [stk] at sky0
    show wpAny _ X.A (noteFrame (.ref a) X.env) _ _ _
    refine Sky.land Zc.steady frs0 frm sky0 fun g fly up1 => ?_
    have upAll := upTo.trans up1
    have JL : Inv X pins σ1 H1 { s1 with heap := g } := J.landed ground fly.1 upAll sameOs bare
    obtain ⟨oe, fs, atA, isZ, dat⟩ := fly.there
    have out0 : a ∉ frs (X.env :: X.outer) := fun mem => by
      obtain ⟨_, o2, at2, notF⟩ := fly.2.2.1.mem mem
      rw [atA] at at2
      cases at2
      exact notF _ dat
    have outL : a ≠ X.env.locals := fun z => out0 (List.mem_filterMap.mpr ⟨X.env, List.mem_cons_self, by rw [frm, z]⟩)
    have outF : a ∉ X.fs := fun mem => by
      obtain ⟨ev, mv, qv⟩ := List.mem_filterMap.mp mem
      exact out0 (List.mem_filterMap.mpr ⟨ev, List.mem_cons_of_mem _ mv, qv⟩)
    have JS := JL.suite atA dat free outL outF
    have each : ∀ {hs' : List ExceptHandler} {ks' : List Clause}, ClausesOk X hs' ks' → wClauses X.K Wo D ks' cls d σ1 H1 → wpAny (model X.prog X.w) X.A (handleBy (.ref a) X.env hs') (SP X pins D) X.xe { s1 with heap := g } := by
      intro hs' ks' ok'
      induction ok' with
      | nil =>
        intro last
        obtain ⟨q1, q2, q3, oe', fs', T, oT, tf, atE, zE, dE, f1, rest⟩ := id fly
        have thrown : wpAny (model X.prog X.w) X.A (setFlight (.ref a) X.env.frame) (fun _ s4 => wpAny (model X.prog X.w) X.A (throw (.ref a) : Sem Flow) (SP X pins D) X.xe s4) X.xe { s1 with heap := g } := by
          rw [frm]
          exact HandSPX.setFlight_upZ fly fun g2 held up2 => wpAny_throw (tk _ _ ⟨a, B, s0, pins, σ1, H1, cls, d, rfl, J, ground, upAll.trans up2, .inr (.inr (by rw [stk]; exact held)), free, sameOs, bare, last⟩)
        refine wpAny_handleBy_nil ?_
        unfold PySem.passOn
        refine wpAny_bind (wpAny_field atE dE f1 ?_)
        rw [if_neg (by simp : ¬ ((Value.ref T == Value.none) = true))]
        first
          | exact wpAny_bind (wpAny_pure (wpAny_bind thrown))
          | exact wpAny_bind thrown
      | @cons x n kc ki kts st sts np hp hs2 ks2 nd at_ loc nm su more ih =>
        rintro ⟨b, isB, yes, no⟩
        refine wpAny_handleBy_cons (codeAny_handlers_test ?_) (by intro z; cases z)
        have lookT : PySem.W.Looks (model X.prog X.w) g (typeOf (.ref a)) cls := fun _ _ _ _ keep q => wpAny_typeOf_ref (keep _ _ atA) (by rw [isZ.1]; exact q)
        have lookM := PySem.W.exm_one (M := model X.prog X.w) JL.kIn lookT isB
        have named : ∀ {Q E : Value → Shared → Prop}, Q kc { s1 with heap := g } → wpAny (model X.prog X.w) (X.A.mark (some (.ref a))) (eval (.Name x np) X.env) Q E { s1 with heap := g } := fun {Q E} q => by
          obtain ⟨gl, nodbg, m1 | ⟨m1, m2, m3⟩⟩ := nm
          · exact ld_glob (X := X.suite a ((a, oe) :: (X.pn ++ pins))) JS gl m1 q nodbg
          · exact ld_blt (X := X.suite a ((a, oe) :: (X.pn ++ pins))) JS gl m1 m2 q m3 nodbg
        refine named (lookM.here ?_)
        cases b with
        | false =>
          show wpAny _ X.A (handleBy (.ref a) X.env hs2) _ _ _
          exact ih (no rfl)
        | true =>
          refine codeAny_handlers_suite_as (HandSPX.lands_againZ fly fun g2 fly2 up2 => ?_)
          have J2 : Inv X pins σ1 H1 { s1 with heap := g2 } := J.landed ground fly2.1 (upAll.trans up2) sameOs bare
          obtain ⟨oe2, fs2, at2, isZ2, dat2⟩ := fly2.there
          refine store_ok (X := X.suite a ((a, oe2) :: (X.pn ++ pins))) (v := .ref a) (J2.suite at2 dat2 free outL outF) nd at_ (.inl loc) rfl (fun s5 J5 => ?_) (.inr loc)
          have ends : ∀ {σ6 : St} {H6 : Hp} {s6 : Shared} {Q : Shared → Prop}, Inv (X.suite a ((a, oe2) :: (X.pn ++ pins))) [] σ6 H6 s6 → (∀ s7, Inv X pins (σ6.set ki none) H6 s7 → Q s7) →
              wpAny (model X.prog X.w) X.A (do bindName X.env n .none; unbindBehindTheSuite X.env n hp) (fun _ s7 => Q s7) X.xe s6 := fun J6 q => gone_ok (J6.unsuite good) nd at_ loc q
          refine wpAny_mono ((su a oe2 cls d (X.pn ++ pins) isZ2 ⟨_, dat2⟩).run [] s5 _ H1 _ J5 (yes rfl a free)) (fun f s6 left => ?_) (fun _ _ z => z.elim)
          cases f with
          | ret u => obtain ⟨v6, σ6, H6, J6, r6, q6⟩ := left; exact ends J6 fun s7 J7 => ⟨_, _, _, J7, r6, q6⟩
          | next => obtain ⟨σ6, H6, J6, q6⟩ := left; exact ends J6 fun s7 J7 => ⟨_, _, J7, q6⟩
          | brk => obtain ⟨σ6, H6, J6, q6⟩ := left; exact ends J6 fun s7 J7 => ⟨_, _, J7, q6⟩
          | cont => obtain ⟨σ6, H6, J6, q6⟩ := left; exact ends J6 fun s7 J7 => ⟨_, _, J7, q6⟩
    exact each cl wants
  · cases f with
    | ret u => obtain ⟨v, σ2, H2, J2, r2, q2⟩ := out; exact ⟨v, σ2, H2, J2.ofTry good, r2, q2⟩
    | next => obtain ⟨σ2, H2, J2, q2⟩ := out; exact wpAny_execs_nil ⟨σ2, H2, J2.ofTry good, q2⟩
    | brk => obtain ⟨σ2, H2, J2, q2⟩ := out; exact ⟨σ2, H2, J2.ofTry good, q2⟩
    | cont => obtain ⟨σ2, H2, J2, q2⟩ := out; exact ⟨σ2, H2, J2.ofTry good, q2⟩
end
theorem k_cl1 {K : PySem.W.Frag} {Wo : WX} {nx bk ct : L2.St → Hp → Prop} {rt : VK} {c : Value} {i : Nat} {ts : Addr → Value → Option Addr → TS} {r : List Clause} {cls : Value} {d : Option Addr} {σ : L2.St} {H : Hp} (e : PySem.W.exmOne K cls c = some true)
    (q : ∀ a, H a = none → ts a cls d ⟨fun σ H => nx (σ.set i none) H, rt, fun σ H => bk (σ.set i none) H, fun σ H => ct (σ.set i none) H⟩ (σ.set i (some (.ref a))) H) : wClauses K Wo ⟨nx, rt, bk, ct⟩ (⟨c, i, ts⟩ :: r) cls d σ H :=
  ⟨true, e, fun _ => q, fun z => nomatch z⟩
theorem k_cl2 {K : PySem.W.Frag} {Wo : WX} {D : Ends} {k : Clause} {r : List Clause} {cls : Value} {d : Option Addr} {σ : L2.St} {H : Hp} (e : PySem.W.exmOne K cls k.c = some false) (q : wClauses K Wo D r cls d σ H) : wClauses K Wo D (k :: r) cls d σ H :=
  ⟨false, e, fun z => (nomatch z), fun _ => q⟩
theorem w_isN {A : Prop} (q : A) : V.non = V.non ∧ A := ⟨rfl, q⟩
end L2.My

/-! W11: math.lcm of two, for over enumerate, comprehensions over tuples and zips with draws. -/
namespace L2.My
open PySem PySem.Spec PyProof.Rows
def rLcm : List V → Hp → VK → Prop := fun vs H Q => ∃ a b : Int, vs = [.int a, .int b] ∧ a.natAbs < 2 ^ 64 ∧ b.natAbs < 2 ^ 64 ∧ Q (.int ((a.natAbs.lcm b.natAbs : Nat) : Int)) H
theorem cr_lcm {X : Cx} : CallR X (.builtin "math.lcm") rLcm := by
  intro pins s σ H vs us Q I r h
  obtain ⟨a, b, rfl, ha, hb, q⟩ := h
  cases r with
  | cons ra r =>
    cases r with
    | cons rb r =>
      cases r
      obtain ⟨t, rfl⟩ := ra
      obtain ⟨u, rfl⟩ := rb
      exact PySem.W.mc_lcm ha hb fun _ => ⟨.int ((a.natAbs.lcm b.natAbs : Nat) : Int), H, I.tok _, ⟨_, rfl⟩, q⟩
theorem w_lcm {a b : Int} {H : Hp} {Q : VK} (ha : a.natAbs < 2 ^ 64) (hb : b.natAbs < 2 ^ 64) (q : Q (.int ((a.natAbs.lcm b.natAbs : Nat) : Int)) H) : rLcm [.int a, .int b] H Q := ⟨a, b, rfl, ha, hb, q⟩
section
variable {K : PySem.W.Frag} {σ : St} {H : Hp} {g : TG} {tb : TS} {D : Ends} {a b : Addr} {xs ys : List V} {ta : TA} {te : TE} {tt : TT} {ws : List Nat} {Q : VK}
def ForEn (K : PySem.W.Frag) (g : TG) (tb : TS) (D : Ends) (σ : St) (vs : List V) (H : Hp) : Prop := tFor (iEnum K fun _ H Q => Q vs H) g tb D σ H
theorem w_forEn (q : ta σ H fun vs H1 => ForEn K g tb D σ vs H1) : tFor (iEnum K ta) g tb D σ H := q
theorem k_forEn {nx bk ct : L2.St → Hp → Prop} {rt : VK} (Pv : Nat → St → Hp → Prop) (hx : SqL K H a xs) (h0 : Pv 0 σ H) (hl : ∀ i σ H, Pv i σ H → SqL K H a xs)
    (hs : ∀ i x σ H T H', xs[i]? = some x → Pv i σ H → H T = none → Same H H' → H' T = some (.tup [.int (i : Nat), x]) → g (.ref T) σ H' fun σ2 H2 => tb ⟨Pv (i + 1), rt, nx, Pv (i + 1)⟩ σ2 H2) (hd : ∀ σ H, Pv xs.length σ H → nx σ H) :
    ForEn K g tb ⟨nx, rt, bk, ct⟩ σ [.ref a] H := by
  refine ⟨a, xs, rfl, hx, fun i m σ H => Pv i σ H ∧ m + i = xs.length, ⟨xs.length, h0, rfl⟩, fun i m σ H ⟨q, em⟩ => ?_⟩
  have l1 := hl i σ H q
  rcases Nat.lt_or_ge i xs.length with h | h
  · right
    have ex : xs[i]? = some xs[i] := List.getElem?_eq_getElem h
    refine ⟨⟨xs, _, l1, ex⟩, Pv (i + 1), fun σ' H' q' => ⟨m - 1, by omega, q', by omega⟩, ?_⟩
    rintro x H' ⟨T, x', rfl, hT, rfl, h1⟩
    exact hs i x' σ H T _ (h1 xs l1) q hT (Same.new hT) upd_same
  · left
    obtain rfl : i = xs.length := by omega
    exact ⟨⟨xs, l1, Nat.le_refl _⟩, hd σ H q⟩
/-- a comprehension over a tuple, any -/
theorem k_lcT (Pv : Nat → Addr → Hp → Prop) (h : H a = some (.tup xs)) (h0 : ∀ D, H D = none → Pv 0 D (upd H D (.lst []))) (hl : ∀ i D H', Pv i D H' → H' a = some (.tup xs))
    (hs : ∀ i x D H, xs[i]? = some x → Pv i D H → g x (wipe σ ws) H fun σ2 H2 => wipe σ2 ws = wipe σ ws ∧ tt σ2 H2 fun b H3 =>
      if b = true then te σ2 H3 fun y H4 => ∃ acc, H4 D = some (.lst acc) ∧ acc.length < sizeLine ∧ Pv (i + 1) D (upd H4 D (.lst (acc ++ [y]))) else Pv (i + 1) D H3) (hd : ∀ D H, Pv xs.length D H → Q (.ref D) H) : CompT K g tt te ws σ (.ref a) H Q :=
  ⟨a, rfl, ⟨_, SqT.of h⟩, fun D hD => lc_tup (xs := xs) (fun i H => Pv i D H) (h0 D hD) (fun i H _ q => SqT.of (hl i D H q)) (fun i x H hx q => hs i x D H hx q) (fun H q => hd D H q)⟩
/-- .. over a zip of two tuples -/
def CompZT (K : PySem.W.Frag) (g : TG) (tt : TT) (te : TE) (ws : List Nat) (σ : St) (vs : List V) (H : Hp) (Q : VK) : Prop := tLc (RZ.iZipA K fun _ H Q => Q vs H) g tt te ws σ H Q
theorem w_lcZT (q : ta σ H fun vs H1 => CompZT K g tt te ws σ vs H1 Q) : tLc (RZ.iZipA K ta) g tt te ws σ H Q := q
theorem k_lcZT (Pv : Nat → Addr → Hp → Prop) (ha : H a = some (.tup xs)) (hb : H b = some (.tup ys)) (e : xs.length = ys.length) (h0 : ∀ D, H D = none → Pv 0 D (upd H D (.lst []))) (hl : ∀ i D H', Pv i D H' → H' a = some (.tup xs) ∧ H' b = some (.tup ys))
    (hs : ∀ i x y D H T H', xs[i]? = some x → ys[i]? = some y → Pv i D H → H T = none → Same H H' → H' T = some (.tup [x, y]) → g (.ref T) (wipe σ ws) H' fun σ2 H2 => wipe σ2 ws = wipe σ ws ∧ tt σ2 H2 fun b H3 =>
      if b = true then te σ2 H3 fun z H4 => ∃ acc, H4 D = some (.lst acc) ∧ acc.length < sizeLine ∧ Pv (i + 1) D (upd H4 D (.lst (acc ++ [z]))) else Pv (i + 1) D H3) (hd : ∀ D H, Pv xs.length D H → Q (.ref D) H) : CompZT K g tt te ws σ [.ref a, .ref b] H Q := by
  refine ⟨a, b, xs, ys, rfl, .inr ⟨SqT.of ha, SqT.of hb, fun D hD => ⟨fun i m H => Pv i D H ∧ m + i = xs.length, ⟨xs.length, h0 D hD, rfl⟩, fun i m H ⟨q, em⟩ => ?_⟩⟩⟩
  obtain ⟨l1, l2⟩ := hl i D H q
  rcases Nat.lt_or_ge i xs.length with h | h
  · right
    have ex : xs[i]? = some xs[i] := List.getElem?_eq_getElem h
    have ey : ys[i]? = some (ys[i]'(by omega)) := List.getElem?_eq_getElem (by omega)
    refine ⟨⟨xs, ys, _, _, SqT.of l1, SqT.of l2, ex, ey⟩, Pv (i + 1) D, fun H' q' => ⟨m - 1, by omega, q', by omega⟩, ?_⟩
    rintro x H' ⟨T, x', y', rfl, hT, rfl, h1, h2⟩
    exact hs i x' y' D H T _ (h1 xs (SqT.of l1)) (h2 ys (SqT.of l2)) q hT (Same.new hT) upd_same
  · left
    obtain rfl : i = xs.length := by omega
    exact ⟨⟨xs, ys, SqT.of l1, SqT.of l2, .inl (Nat.le_refl _)⟩, hd D H q⟩
end
theorem w_notB {b c : Bool} {H : Hp} {Q : VK} (q : Q (.bl (!decide (b = c))) H) : rNotB (.bl b) (.bl c) H Q := ⟨b, c, rfl, rfl, q⟩
end L2.My

/-! W12: == of two tuples whose items an own == compares, with either answer. -/
namespace L2.My
open PySem PySem.SeqAt
open AutoSeq1 (wpAny_loadPart')
open MeetsSeq MeetsSeq2 MeetsSeq3 SeqRoads2
section
variable {P : Program} {w : World} {A : Around} {R : Result → Shared → Prop}
theorem tup_eqB (p q : Addr) (as bs : Array Value) (n m : Nat) (da db : Option Addr) (sa sb : Array (Option Value)) (sz : as.size = bs.size) (e : Nat → Bool) (v : Bool) (ev : (List.range as.size).all e = v) (J : Nat → Shared → Prop)
    (go : ∀ i (h1 : i < as.size) (h2 : i < bs.size) t, J i t → wpAny (model P w) A.in1 (eqBool as[i] bs[i]) (fun r t' => r = e i ∧ J (i + 1) t') (fun er t' => R (.error er) t') t)
    (out : ∀ i t, J i t → R (.ok (.ret (.bool v))) t) {s : Shared} (lp : s.heap.get? p = some { cls := .type "tuple", dict := da, data := .seq as n, slots := sa }) (lq : s.heap.get? q = some { cls := .type "tuple", dict := db, data := .seq bs m, slots := sb }) (start : J 0 s) :
    wpAny (model P w) A.in1 (Builtin.«tuple.__eq__» ⟨[.ref p, .ref q], []⟩) (GQ.FinOf P w A R) (fun er t' => R (.error er) t') s := by
  have sub2 := AutoSeq1.sub_tuple_tuple
  have zl : (as.toList.zip bs.toList).length = as.size := by simp [sz]
  have keep := start
  obtain ⟨hp, gg, dd, tk, os⟩ := s
  wp_walk using wpAny_loadPart' lp, wpAny_loadPart' lq, wpAny_forIn_list _ (fun rest st t => st.1 = none ∧ ∃ i, rest = (as.toList.zip bs.toList).drop i ∧ i ≤ as.size ∧ ((List.range as.size).drop i).all e = v ∧ J i t) _
  case turn =>
    rintro ⟨y, x⟩ rest st t ⟨no, i, ez, le, al, hJ⟩
    have lt : i < (as.toList.zip bs.toList).length := by
      refine Nat.lt_of_not_le fun z => ?_
      rw [List.drop_of_length_le z] at ez
      cases ez
    have h1 : i < as.size := zl ▸ lt
    have h2 : i < bs.size := sz ▸ h1
    rw [List.drop_eq_getElem_cons lt] at ez
    injection ez with e1 e2
    obtain rfl : y = as[i] := by simpa using congrArg Prod.fst e1
    obtain rfl : x = bs[i] := by simpa using congrArg Prod.snd e1
    rw [show (List.range as.size).drop i = i :: (List.range as.size).drop (i + 1) by simp [List.drop_eq_getElem_cons, h1], List.all_cons] at al
    refine wpAny_bind (wpAny_mono (go i h1 h2 t hJ) (fun r t2 z => ?_) fun _ _ z => z)
    obtain ⟨rfl, J2⟩ := z
    cases eb : e i with
    | true =>
      rw [eb, Bool.true_and] at al
      wp_walk
      exact ⟨rfl, i + 1, e2, h1, al, J2⟩
    | false =>
      have o := out _ _ J2
      rw [eb, Bool.false_and] at al
      subst al
      wp_walk
      exact o
  case fin =>
    rintro ⟨z1, z2⟩ t ⟨no, i, ez, le, al, hJ⟩
    simp only at no
    subst no
    have ge : as.size ≤ i := Nat.le_of_not_lt fun z => by
      rw [List.drop_eq_getElem_cons (by rw [zl]; exact z)] at ez
      cases ez
    rw [List.drop_of_length_le (by simpa using ge)] at al
    have o := out _ _ hJ
    rw [← al] at o
    wp_walk
    simpa [Builtin.Tuple.tupleCompareSizes, sz] using o
  case h => exact ⟨rfl, 0, rfl, Nat.zero_le _, by simpa using ev, keep⟩
end
open PySem.Spec PyProof.Rows
/-- what == says of two things, told -/
abbrev EqvB := V → V → Hp → Bool → Prop
def RcB (X : Cx) (n : Nat) (D : EqvB) : Prop :=
  ∀ (A : Around) (pins : List (Addr × Obj)) (s : Shared) (σ : L2.St) (H : Hp) (x y : V) (u v : Value) (b : Bool), Sub X n A → Inv X pins σ H s → RelV x u → RelV y v → D x y H b →
    wpAny (model X.prog X.w) A (richCompare .Eq u v) (fun r t => r = .bool b ∧ ∃ H', Inv X pins σ H' t ∧ Ext H H') X.xe s
def EqB (X : Cx) (n : Nat) (D : EqvB) : Prop :=
  ∀ (A : Around) (pins : List (Addr × Obj)) (s : Shared) (σ : L2.St) (H : Hp) (x y : V) (u v : Value) (b : Bool), Sub X n A → Inv X pins σ H s → RelV x u → RelV y v → D x y H b →
    wpAny (model X.prog X.w) A (eqBool u v) (fun r t => r = b ∧ ∃ H', Inv X pins σ H' t ∧ Ext H H') X.xe s
/-- instances of the class C: what its own == promises -/
def DInB (C : Addr) (R : Addr → Addr → Hp → Bool → Prop) : EqvB := fun x y H b => ∃ p q dx dy fs gs, x = .ref p ∧ y = .ref q ∧ H p = some (.ins C dx fs) ∧ H q = some (.ins C dy gs) ∧ R p q H b
section
variable {X : Cx} {n : Nat} {D : EqvB}
theorem rcB_ins {CX : CXT} {C f : Addr} {fd : FuncData} {ps : List Str} {R : Addr → Addr → Hp → Bool → Prop} {sp : Sp} {E : XK} (F : FnOk X.prog X.w X.K X.mg X.base CX n f fd ps sp)
    (keeps : ∀ p q H b, R p q H b → sp [.ref p, .ref q] H (fun z H' => z = .bl b ∧ Ext H H') E)
    (at_ : PySem.W.findIn X.K (.ref C) "__eq__" = some (some (.ref f))) (fn : PySem.W.isFn X.K (.ref f) = true) (bi : Binds X.K fd ps []) (px : Passes CX X E) : RcB X n (DInB C R) := by
  intro A pins s σ H x y u v b sub I rx ry ⟨p, q, dx, dy, fs, gs, ex, ey, hp, hq, hR⟩
  subst ex ey
  cases rx
  cases ry
  obtain ⟨m1, J, _⟩ := ins_get I.hok hp
  obtain ⟨m2, J', _⟩ := ins_get I.hok hq
  obtain ⟨od, J, _⟩ := J.look
  obtain ⟨od', J', _⟩ := J'.look
  obtain ⟨mm, hF⟩ := I.fr
  have want := keeps p q H b hR
  have lens := F.len _ _ _ _ want
  have env : Env0 X.prog X.w X.K X.mg X.base A X.stack s H := ⟨by rw [sub.fr]; exact I.env0.frames, I.env0.mod, I.env0.bs, I.env0.bsz, I.env0.funs, I.env0.frf, I.env0.hok, I.env0.bare⟩
  refine PySem.W.cmp_K (op := .Eq) (tb := .ref C) sub.room.units0 hF I.ok.mod.kin J J'.type (by simp [PySem.W.notFirst]) at_ fn ?_
  refine wpAny_call (codeAny_mono (F.run A X.stack s H ⟨[.ref p, .ref q], []⟩ [.ref p, .ref q] [.ref p, .ref q] _ E sub.room env (by simpa using bi s [.ref p, .ref q] I.kIn (by simpa using lens)) (.cons rfl (.cons rfl .nil)) want) fun r t hr => ?_)
  cases r with
  | error er => exact px pins σ H s er t I hr
  | ok fl =>
    cases fl with
    | ret z =>
      obtain ⟨z', H', I', rz, ez, ext⟩ := I.after hr
      subst ez
      cases rz
      exact ⟨rfl, H', I', ext⟩
    | next => exact hr.elim
    | brk => exact hr.elim
    | cont => exact hr.elim
theorem RcB.eqB (h : RcB X n D) (refs : ∀ x y H b, D x y H b → ∃ p q, x = .ref p ∧ y = .ref q) (self : ∀ p H b, D (.ref p) (.ref p) H b → b = true) : EqB X n D := by
  intro A pins s σ H x y u v b sub I rx ry d
  obtain ⟨p, q, ex, ey⟩ := refs _ _ _ _ d
  subst ex ey
  cases rx
  cases ry
  by_cases pq : p = q
  · subst pq
    rw [self _ _ _ d]
    exact SeqAt.EqAt.same (A := A) (s := s) (.ref p) X.prog X.w X.xe _ ⟨rfl, H, I, Ext.rfl'⟩
  · refine GQ.eqBool_refG pq (wpAny_mono (h A pins s σ H (.ref p) (.ref q) _ _ b sub I rfl rfl d) (fun r t z => ?_) fun _ _ z => z)
    exact ⟨b, z.1, rfl, z.2⟩
/-- tuples of two such items each -/
def DTwo (K : PySem.W.Frag) (D : EqvB) : EqvB := fun x y H b => ∃ p q x0 x1 y0 y1 b0 b1, x = .ref p ∧ y = .ref q ∧ SqT K H p [x0, x1] ∧ SqT K H q [y0, y1] ∧ D x0 y0 H b0 ∧ D x1 y1 H b1 ∧ b = (b0 && b1)
theorem rcB_two (mon : ∀ x y H H' b, Ext H H' → D x y H b → D x y H' b) (h : EqB X n D) : RcB X (n + 1) (DTwo X.K D) := by
  intro A pins s σ H x y u v b sub I rx ry ⟨p, q, x0, x1, y0, y1, b0, b1, ex, ey, hp, hq, d0, d1, eb⟩
  subst ex ey
  cases rx
  cases ry
  obtain ⟨its, r1, pl, -⟩ := I.tuple hp
  obtain ⟨its', r2, pl', -⟩ := I.tuple hq
  cases r1 with
  | cons ra r1 =>
    cases r1 with
    | cons rb r1 =>
      cases r1
      cases r2 with
      | cons rc r2 =>
        cases r2 with
        | cons rd r2 =>
          cases r2
          obtain ⟨⟨c1, e1, f1, g1⟩, ho, hc, k1, hd⟩ := id pl
          obtain ⟨⟨c2, e2, f2, g2⟩, ho2, hc2, k2, hd2⟩ := id pl'
          simp only at hc hd hc2 hd2
          subst hc hd hc2 hd2
          refine wpAny_richCompare_same_room (op := .Eq) ⟨_, ho, rfl⟩ ⟨_, ho2, rfl⟩ F.slot_tuple_eq (GQ.call_here F.slot_tuple_eq ⟨_, ho, rfl⟩ F.entry_tuple_eq (F.args_tuple_eq_2 _ _) ?_) sub.room.units0
          refine tup_eqB (R := wants (fun z t => z ≠ .notImplemented ∧ (z = .bool b ∧ ∃ H', Inv X pins σ H' t ∧ Ext H H')) X.xe) p q _ _ _ _ _ _ _ _ (by simp) (fun i => if i = 0 then b0 else b1) b ?_ (fun _ t => ∃ H', Inv X pins σ H' t ∧ Ext H H') ?_ ?_ ho ho2 ⟨H, I, Ext.rfl'⟩
          · rw [eb]
            show ((List.range 2).all _) = _
            simp [List.range_succ]
          · rintro i h1 h2 t ⟨H1, I1, x1'⟩
            have hi : i = 0 ∨ i = 1 := by have : i < 2 := h1; omega
            rcases hi with rfl | rfl
            · refine wpAny_mono (h A.in1 pins t σ H1 x0 y0 _ _ b0 sub.in1 I1 ra rc (mon _ _ _ _ _ x1' d0)) (fun r t' z => ?_) fun _ _ z => z
              obtain ⟨z1, H2, I2, x2⟩ := z
              exact ⟨z1, H2, I2, x1'.trans x2⟩
            · refine wpAny_mono (h A.in1 pins t σ H1 x1 y1 _ _ b1 sub.in1 I1 rb rd (mon _ _ _ _ _ x1' d1)) (fun r t' z => ?_) fun _ _ z => z
              obtain ⟨z1, H2, I2, x2⟩ := z
              exact ⟨z1, H2, I2, x1'.trans x2⟩
          · exact fun i t z => ⟨fun y => (nomatch y), rfl, z⟩
/-- x == y -/
def rEqB (D : EqvB) : R2 := fun x y H Q => ∃ b, D x y H b ∧ ∀ H', Ext H H' → Q (.bl b) H'
theorem op_eqB (h : RcB X n D) (hr : Room n X.A) : OpR X (compareOp .Eq) (rEqB D) := by
  intro pins s σ H x y v u Q I rx ry ⟨b, d, q⟩
  show wpAny (model X.prog X.w) X.A (richCompare .Eq v u) (EP X pins σ Q) X.xe s
  refine wpAny_mono (h X.A pins s σ H x y v u b ⟨hr, rfl⟩ I rx ry d) (fun r t z => ?_) fun _ _ z => z
  obtain ⟨z1, H', I', e⟩ := z
  subst z1
  exact ⟨.bl b, H', I', rfl, q H' e⟩
end
end L2.My

/-! W13: == of tuples of two instances by their own ==, of tuples with the same things in them. -/
namespace L2.My
open PySem PySem.Spec PyProof.Rows
section
variable {X : Cx} {n j k : Nat}
theorem RcB.mono' {D : EqvB} (h : RcB X n D) (l : n ≤ j) : RcB X j D := fun A pins s σ H x y u v b sb => h A pins s σ H x y u v b (sb.mono l)
theorem op_eqTwo {C : Addr} {ps : List Str} {sp : Sp} {E : XK} {R : Addr → Addr → Hp → Bool → Prop} (h : HasM X.prog X.w X.K X.mg X.base C "__eq__" k ps sp) (hr : Room j X.A) (hx : Passes (L2.CX X.prog X.w) X E)
    (keeps : ∀ p q H b, R p q H b → sp [.ref p, .ref q] H (fun z H' => z = .bl b ∧ Ext H H') E) (mon : ∀ p q H H' b, Ext H H' → R p q H b → R p q H' b) (self : ∀ p H b, R p p H b → b = true) (hj : k + 1 ≤ j := by decide) :
    OpR X (compareOp .Eq) (rEqB (DTwo X.K (DInB C R))) := by
  obtain ⟨f, fd, Fo, hm, hb⟩ := h
  have r1 : RcB X k (DInB C R) := rcB_ins Fo keeps hm.at_ hm.fn hb hx
  have r2 : EqB X k (DInB C R) := r1.eqB (fun x y H b d => by obtain ⟨p, q, _, _, _, _, e1, e2, _⟩ := d; exact ⟨p, q, e1, e2⟩) (fun p H b d => by
    obtain ⟨p', q', _, _, _, _, e1, e2, _, _, r⟩ := d
    cases e1
    cases e2
    exact self _ _ _ r)
  refine op_eqB (rcB_two (fun x y H H' b e d => ?_) r2) (hr.mono hj)
  obtain ⟨p, q, dx, dy, fs, gs, e1, e2, h1, h2, r⟩ := d
  exact ⟨p, q, dx, dy, fs, gs, e1, e2, e _ _ h1, e _ _ h2, mon _ _ _ _ _ e r⟩
/-- flat and equal, or the same object -/
def DSame : Eqv := fun x y H => DFlat x y H ∨ ∃ a, x = .ref a ∧ y = .ref a
theorem mon_same : Mon DSame := fun _ _ _ _ _ d => d
theorem eqG_same : EqG X 0 DSame := fun A pins s σ H x y u v sb I rx ry d => by
  rcases d with d | ⟨a, e1, e2⟩
  · exact eqG_flat A pins s σ H x y u v sb I rx ry d
  · subst e1 e2
    cases rx
    cases ry
    exact SeqAt.EqAt.same (A := A) (s := s) (.ref a) X.prog X.w X.xe _ ⟨rfl, H, I, Ext.rfl'⟩
theorem op_eqSame (hr : Room 1 X.A) : OpR X (compareOp .Eq) (rEqG (DTup X.K DSame)) := op_eqG (rcG_tup mon_same eqG_same) hr
/-- (text, thing) == (text, thing) -/
theorem w_eqSame2 {K : PySem.W.Frag} {p q : Addr} {s : Str} {v : V} {H : Hp} {Q : VK} (h1 : H p = some (.tup [.str s, v])) (h2 : H q = some (.tup [.str s, v])) (hv : (∃ a, v = .ref a) ∨ v = .non ∨ ∃ k, v = .int k) (q' : ∀ H', Ext H H' → Q (.bl true) H') : rEqG (DTup K DSame) (.ref p) (.ref q) H Q := by
  refine ⟨⟨p, q, _, _, rfl, rfl, SqT.of h1, SqT.of h2, .cons (.inl ⟨rfl, rfl, by simp [eqV]⟩) (.cons ?_ .nil)⟩, q'⟩
  rcases hv with ⟨a, rfl⟩ | rfl | ⟨k, rfl⟩
  · exact .inr ⟨a, rfl, rfl⟩
  · exact .inl ⟨rfl, rfl, rfl⟩
  · exact .inl ⟨rfl, rfl, by simp [eqV]⟩
end
end L2.My

/-! W14: the signs of t + r * the square root of 2, by whole numbers p, q with p * p = 2 * q * q + 1 far enough out: t * q + r * p has the same sign. -/
namespace L2.My
/-- the sign of t + r * the square root of 2 -/
def sg2 (t r : Int) : Int :=
  if t = 0 ∧ r = 0 then 0 else if 0 ≤ t ∧ 0 ≤ r then 1 else if t ≤ 0 ∧ r ≤ 0 then -1 else if t * t > 2 * r * r then (if 0 < t then 1 else -1) else if 0 < r then 1 else -1
structure Pell (p q : Int) : Prop where
  e : p * p = 2 * (q * q) + 1
  p : 0 < p
  q : 0 < q
theorem sq_le {x y : Int} (hx : 0 ≤ x) (h : x ≤ y) : x * x ≤ y * y := Int.mul_le_mul h h hx (by omega)
theorem sq_lt_of {x y : Int} (hy : 0 ≤ y) (h : x * x < y * y) : x < y := by
  refine Int.not_le.mp fun z => ?_
  have := sq_le hy z
  omega
theorem Pell.next {p q : Int} (h : Pell p q) : Pell (3 * p + 4 * q) (2 * p + 3 * q) := by
  obtain ⟨e, hp, hq⟩ := h
  exact ⟨by grind, by omega, by omega⟩
theorem pell_far (n : Nat) : ∃ p q, Pell p q ∧ (n : Int) < q := by
  induction n with
  | zero => exact ⟨3, 2, ⟨by decide, by decide, by decide⟩, by decide⟩
  | succ n ih =>
    obtain ⟨p, q, h, l⟩ := ih
    have := h.p
    exact ⟨_, _, h.next, by omega⟩
theorem Pell.lo {p q : Int} (h : Pell p q) : 7 * q < 5 * p := by
  have := h.e
  have := h.p
  have := h.q
  refine sq_lt_of (by omega) ?_
  have h2 : 0 < q * q := Int.mul_pos h.q h.q
  have e1 : 7 * q * (7 * q) = 49 * (q * q) := by grind
  have e2 : 5 * p * (5 * p) = 25 * (p * p) := by grind
  omega
theorem Pell.hi {p q : Int} (h : Pell p q) : 2 * p ≤ 3 * q := by
  have := h.e
  have := h.p
  have := h.q
  refine Int.not_lt.mp fun z => ?_
  have h2 := sq_le (x := 3 * q + 1) (y := 2 * p) (by omega) (by omega)
  have e1 : (3 * q + 1) * (3 * q + 1) = 9 * (q * q) + 6 * q + 1 := by grind
  have e2 : 2 * p * (2 * p) = 4 * (p * p) := by grind
  have h3 : 0 < q * q := Int.mul_pos h.q h.q
  have h4 : 1 * q ≤ q * q := Int.mul_le_mul_of_nonneg_right (by omega) (by omega)
  omega
/-- the signs are told by the whole number -/
theorem sg2_pell {t r p q : Int} (h : Pell p q) (hr : (r.natAbs : Int) < q) : (0 < t * q + r * p → sg2 t r = 1) ∧ (t * q + r * p < 0 → sg2 t r = -1) ∧ (t * q + r * p = 0 → t = 0 ∧ r = 0) := by
  obtain ⟨e, hp, hq⟩ := h
  have r2 : r * r < q * q := by
    have : (r.natAbs : Int) * r.natAbs = r * r := by
      rw [← Int.natCast_mul, Int.natAbs_mul_self]
    have l := sq_le (x := (r.natAbs : Int)) (y := q - 1) (by omega) (by omega)
    have e1 : (q - 1) * (q - 1) = q * q - 2 * q + 1 := by grind
    omega
  have r0 : 0 ≤ r * r := by
    rcases Int.le_total 0 r with h | h
    · exact Int.mul_nonneg h h
    · exact Int.mul_nonneg_of_nonpos_of_nonpos h h
  have key : (t * q) * (t * q) - (r * p) * (r * p) = (t * t - 2 * (r * r)) * (q * q) - r * r := by
    have e2 : (r * p) * (r * p) = r * r * (2 * (q * q) + 1) := by rw [← e]; grind
    rw [e2]
    grind
  have qq : 0 < q * q := Int.mul_pos hq hq
  unfold sg2
  by_cases c0 : t = 0 ∧ r = 0
  · obtain ⟨rfl, rfl⟩ := c0
    simp
  rw [if_neg c0]
  by_cases c1 : 0 ≤ t ∧ 0 ≤ r
  · rw [if_pos c1]
    have a1 : 0 ≤ t * q := Int.mul_nonneg c1.1 (by omega)
    have a2 : 0 ≤ r * p := Int.mul_nonneg c1.2 (by omega)
    have a3 : 0 < t * q + r * p := by
      rcases (show 0 < t ∨ 0 < r by omega) with z | z
      · have := Int.mul_pos z hq
        omega
      · have := Int.mul_pos z hp
        omega
    exact ⟨fun _ => rfl, fun z => by omega, fun z => by omega⟩
  rw [if_neg c1]
  by_cases c2 : t ≤ 0 ∧ r ≤ 0
  · rw [if_pos c2]
    have a1 : 0 ≤ -t * q := Int.mul_nonneg (by omega) (by omega)
    have a2 : 0 ≤ -r * p := Int.mul_nonneg (by omega) (by omega)
    have a3 : 0 < -t * q + -r * p := by
      rcases (show 0 < -t ∨ 0 < -r by omega) with z | z
      · have := Int.mul_pos z hq
        omega
      · have := Int.mul_pos z hp
        omega
    rw [Int.neg_mul] at a1 a3
    rw [Int.neg_mul] at a2 a3
    exact ⟨fun z => by omega, fun _ => rfl, fun z => by omega⟩
  rw [if_neg c2]
  have a5 : 2 * r * r = 2 * (r * r) := Int.mul_assoc _ _ _
  by_cases c3 : t * t > 2 * r * r
  · rw [if_pos c3]
    have b1 : q * q ≤ (t * t - 2 * (r * r)) * (q * q) := by
      have := Int.mul_le_mul_of_nonneg_right (a := 1) (b := t * t - 2 * (r * r)) (c := q * q) (by omega) (by omega)
      omega
    by_cases c4 : 0 < t
    · rw [if_pos c4]
      have p1 : 0 < t * q := Int.mul_pos c4 hq
      have b2 : -(r * p) < t * q := sq_lt_of (by omega) (by rw [Int.neg_mul_neg]; omega)
      exact ⟨fun _ => rfl, fun z => by omega, fun z => by omega⟩
    · rw [if_neg c4]
      have p1 : 0 < -t * q := Int.mul_pos (by
        refine Int.not_le.mp fun z => ?_
        have : t = 0 := by omega
        subst this
        omega) hq
      have b2 : r * p < -t * q := sq_lt_of (by omega) (by rw [Int.neg_mul, Int.neg_mul_neg]; omega)
      rw [Int.neg_mul] at b2
      exact ⟨fun z => by omega, fun _ => rfl, fun z => by omega⟩
  · rw [if_neg c3]
    have d1 : t * t < 2 * (r * r) ∨ t * t = 2 * (r * r) := by omega
    have rn : r ≠ 0 := by
      intro z
      subst z
      simp only [Int.mul_zero] at d1
      rcases Int.lt_or_gt_of_ne (show t ≠ 0 from fun y => c0 ⟨y, rfl⟩) with z | z
      · have := Int.mul_pos_of_neg_of_neg z z
        omega
      · have := Int.mul_pos z z
        omega
    have b1 : (t * t - 2 * (r * r)) * (q * q) ≤ 0 := Int.mul_nonpos_of_nonpos_of_nonneg (by omega) (by omega)
    have rr : 0 < r * r := by
      rcases Int.lt_or_gt_of_ne rn with z | z
      · exact Int.mul_pos_of_neg_of_neg z z
      · exact Int.mul_pos z z
    by_cases c4 : 0 < r
    · rw [if_pos c4]
      have p1 : 0 < r * p := Int.mul_pos c4 hp
      have b2 : -(t * q) < r * p := sq_lt_of (by omega) (by rw [Int.neg_mul_neg]; omega)
      exact ⟨fun _ => rfl, fun z => by omega, fun z => by omega⟩
    · rw [if_neg c4]
      have p1 : 0 < -r * p := Int.mul_pos (by omega) hp
      have b2 : t * q < -r * p := sq_lt_of (by omega) (by rw [Int.neg_mul, Int.neg_mul_neg]; omega)
      rw [Int.neg_mul] at b2
      exact ⟨fun z => by omega, fun _ => rfl, fun z => by omega⟩
theorem sg2_pos {t r p q : Int} (h : Pell p q) (hr : (r.natAbs : Int) < q) : 0 < sg2 t r ↔ 0 < t * q + r * p := by
  obtain ⟨a, b, c⟩ := sg2_pell (t := t) h hr
  constructor
  · intro z
    rcases (show 0 < t * q + r * p ∨ t * q + r * p < 0 ∨ t * q + r * p = 0 by omega) with y | y | y
    · exact y
    · rw [b y] at z
      omega
    · obtain ⟨rfl, rfl⟩ := c y
      simp [sg2] at z
  · intro z
    rw [a z]
    decide
theorem nat_sqr2 : ∀ m n : Nat, m * m = 2 * (n * n) → n = 0 := by
  intro m
  induction m using Nat.strongRecOn with
  | ind m ih =>
    intro n h
    rcases Nat.eq_zero_or_pos n with h0 | h0
    · exact h0
    have hn : n < m := by
      rcases Nat.lt_or_ge n m with q | q
      · exact q
      · have := Nat.mul_le_mul q q
        have : 0 < n * n := Nat.mul_pos h0 h0
        omega
    have he : m % 2 = 0 := by
      rcases Nat.mod_two_eq_zero_or_one m with q | q
      · exact q
      · have : m * m % 2 = 1 := by rw [Nat.mul_mod, q]
        omega
    obtain ⟨k, rfl⟩ : ∃ k, m = 2 * k := ⟨m / 2, by omega⟩
    have h2 : n * n = 2 * (k * k) := by
      have : 2 * k * (2 * k) = 4 * (k * k) := by grind
      omega
    have hk := ih n hn k h2
    subst hk
    simp at h2
    rcases Nat.mul_eq_zero.mp h2 with q | q <;> exact q
/-- the square root of 2 is no fraction -/
theorem sqr2 {t r : Int} (h : t * t - 2 * r * r = 0) : t = 0 ∧ r = 0 := by
  have e : t.natAbs * t.natAbs = 2 * (r.natAbs * r.natAbs) := by
    have h1 : ((t.natAbs * t.natAbs : Nat) : Int) = t * t := Int.natAbs_mul_self
    have h2 : ((r.natAbs * r.natAbs : Nat) : Int) = r * r := Int.natAbs_mul_self
    have h3 : 2 * r * r = 2 * (r * r) := Int.mul_assoc ..
    omega
  have hr := nat_sqr2 _ _ e
  rw [hr] at e
  simp at e
  have h0 : t.natAbs = 0 := by rcases Nat.mul_eq_zero.mp e with q | q <;> exact q
  exact ⟨by omega, by omega⟩
/-! ### the window of a floor, told over the half of a common bottom -/
def wit (x y w o : Int) : Bool := decide (0 < sg2 (w - x) (o - y)) && decide (0 < sg2 (w + x) (o + y))
def winB (h a b c e : Int) : Bool := wit a b h h && (wit c e h h && (wit (a + c) (b + e) (2 * h) h && wit (a - c) (b - e) (2 * h) h))
/-- the window, linear -/
structure WinL (X Y U V : Int) : Prop where
  x1 : X < U + V
  x2 : -(U + V) < X
  y1 : Y < U + V
  y2 : -(U + V) < Y
  s1 : X + Y < 2 * U + V
  s2 : -(2 * U + V) < X + Y
  d1 : X - Y < 2 * U + V
  d2 : -(2 * U + V) < X - Y
theorem wit_pell {x y w o p q : Int} (P : Pell p q) (hr : (y.natAbs : Int) + o.natAbs < q) : wit x y w o = true ↔ x * q + y * p < w * q + o * p ∧ -(w * q + o * p) < x * q + y * p := by
  unfold wit
  rw [Bool.and_eq_true, decide_eq_true_eq, decide_eq_true_eq, sg2_pos P (by omega), sg2_pos P (by omega)]
  simp only [Int.sub_mul, Int.add_mul]
  constructor
  · intro h
    omega
  · intro h
    omega
theorem win_pell {h a b c e p q : Int} (P : Pell p q) (hr : (b.natAbs : Int) + e.natAbs + h.natAbs < q) : winB h a b c e = true ↔ WinL (a * q + b * p) (c * q + e * p) (h * q) (h * p) := by
  unfold winB
  rw [Bool.and_eq_true, Bool.and_eq_true, Bool.and_eq_true, wit_pell P (by omega), wit_pell P (by omega), wit_pell P (by omega), wit_pell P (by omega)]
  simp only [Int.sub_mul, Int.add_mul, Int.mul_assoc]
  constructor
  · rintro ⟨⟨h1, h2⟩, ⟨h3, h4⟩, ⟨h5, h6⟩, h7, h8⟩
    exact ⟨by omega, by omega, by omega, by omega, by omega, by omega, by omega, by omega⟩
  · rintro ⟨h1, h2, h3, h4, h5, h6, h7, h8⟩
    omega
/-- from each point of the window one of four steps stays in it -/
theorem win_side {h a b c e : Int} (hh : 0 < h) (w : winB h a b c e = true) : winB h (a + 2 * h) b c e = true ∨ winB h (a - 2 * h) b c e = true ∨ winB h a b (c + 2 * h) e = true ∨ winB h a b (c - 2 * h) e = true := by
  obtain ⟨p, q, P, far⟩ := pell_far (b.natAbs + e.natAbs + h.natAbs)
  rw [win_pell P (by omega)] at w
  rw [win_pell P (by omega), win_pell P (by omega), win_pell P (by omega), win_pell P (by omega)]
  have lo := P.lo
  have hi := P.hi
  have u1 : 0 < h * q := Int.mul_pos hh P.q
  have u2 : 0 < h * (5 * p - 7 * q) := Int.mul_pos hh (by omega)
  rw [Int.mul_sub, ← Int.mul_assoc, ← Int.mul_assoc, Int.mul_comm h 5, Int.mul_comm h 7, Int.mul_assoc, Int.mul_assoc] at u2
  simp only [Int.sub_mul, Int.add_mul, Int.mul_assoc]
  obtain ⟨h1, h2, h3, h4, h5, h6, h7, h8⟩ := w
  by_cases k1 : c * q + e * p ≤ a * q + b * p
  · by_cases k2 : -(c * q + e * p) ≤ a * q + b * p
    · exact .inr (.inl ⟨by omega, by omega, by omega, by omega, by omega, by omega, by omega, by omega⟩)
    · exact .inr (.inr (.inl ⟨by omega, by omega, by omega, by omega, by omega, by omega, by omega, by omega⟩))
  · by_cases k2 : -(c * q + e * p) ≤ a * q + b * p
    · exact .inr (.inr (.inr ⟨by omega, by omega, by omega, by omega, by omega, by omega, by omega, by omega⟩))
    · exact .inl ⟨by omega, by omega, by omega, by omega, by omega, by omega, by omega, by omega⟩
/-! ### three directions one behind the other: one of them is a side -/
section
variable {X Y U V : Int}
theorem WinL.out (n : ¬ WinL X Y U V) : U + V ≤ X ∨ X ≤ -(U + V) ∨ U + V ≤ Y ∨ Y ≤ -(U + V) ∨ 2 * U + V ≤ X + Y ∨ X + Y ≤ -(2 * U + V) ∨ 2 * U + V ≤ X - Y ∨ X - Y ≤ -(2 * U + V) := by
  refine Classical.byContradiction fun h => n ?_
  exact ⟨by omega, by omega, by omega, by omega, by omega, by omega, by omega, by omega⟩
theorem WinL.out0 (w : WinL X Y U V) (u : 0 < U) (v : 0 < V) (n : ¬ WinL (X + 2 * U) Y U V) : U + V ≤ X + 2 * U ∨ 2 * U + V ≤ X + 2 * U + Y ∨ 2 * U + V ≤ X + 2 * U - Y := by
  obtain ⟨h1, h2, h3, h4, h5, h6, h7, h8⟩ := w
  have := WinL.out n
  omega
theorem WinL.out1 (w : WinL X Y U V) (u : 0 < U) (v : 0 < V) (n : ¬ WinL (X - V) (Y + V) U V) : X - V ≤ -(U + V) ∨ U + V ≤ Y + V ∨ X - Y - 2 * V ≤ -(2 * U + V) := by
  obtain ⟨h1, h2, h3, h4, h5, h6, h7, h8⟩ := w
  have := WinL.out n
  omega
theorem WinL.out2 (w : WinL X Y U V) (u : 0 < U) (v : 0 < V) (n : ¬ WinL X (Y - 2 * U) U V) : Y - 2 * U ≤ -(U + V) ∨ X + Y - 2 * U ≤ -(2 * U + V) ∨ 2 * U + V ≤ X - Y + 2 * U := by
  obtain ⟨h1, h2, h3, h4, h5, h6, h7, h8⟩ := w
  have := WinL.out n
  omega
theorem WinL.out3 (w : WinL X Y U V) (u : 0 < U) (v : 0 < V) (n : ¬ WinL (X + V) (Y + V) U V) : U + V ≤ X + V ∨ U + V ≤ Y + V ∨ 2 * U + V ≤ X + Y + 2 * V := by
  obtain ⟨h1, h2, h3, h4, h5, h6, h7, h8⟩ := w
  have := WinL.out n
  omega
theorem WinL.out4 (w : WinL X Y U V) (u : 0 < U) (v : 0 < V) (n : ¬ WinL (X - 2 * U) Y U V) : X - 2 * U ≤ -(U + V) ∨ X - 2 * U + Y ≤ -(2 * U + V) ∨ X - 2 * U - Y ≤ -(2 * U + V) := by
  obtain ⟨h1, h2, h3, h4, h5, h6, h7, h8⟩ := w
  have := WinL.out n
  omega
theorem WinL.out5 (w : WinL X Y U V) (u : 0 < U) (v : 0 < V) (n : ¬ WinL (X + V) (Y - V) U V) : U + V ≤ X + V ∨ Y - V ≤ -(U + V) ∨ 2 * U + V ≤ X - Y + 2 * V := by
  obtain ⟨h1, h2, h3, h4, h5, h6, h7, h8⟩ := w
  have := WinL.out n
  omega
theorem WinL.out6 (w : WinL X Y U V) (u : 0 < U) (v : 0 < V) (n : ¬ WinL X (Y + 2 * U) U V) : U + V ≤ Y + 2 * U ∨ 2 * U + V ≤ X + Y + 2 * U ∨ X - Y - 2 * U ≤ -(2 * U + V) := by
  obtain ⟨h1, h2, h3, h4, h5, h6, h7, h8⟩ := w
  have := WinL.out n
  omega
theorem WinL.out7 (w : WinL X Y U V) (u : 0 < U) (v : 0 < V) (n : ¬ WinL (X - V) (Y - V) U V) : X - V ≤ -(U + V) ∨ Y - V ≤ -(U + V) ∨ X + Y - 2 * V ≤ -(2 * U + V) := by
  obtain ⟨h1, h2, h3, h4, h5, h6, h7, h8⟩ := w
  have := WinL.out n
  omega
theorem WinL.gap0 (w : WinL X Y U V) (u : 0 < U) (lo : 7 * U < 5 * V) (hi : 2 * V ≤ 3 * U) : WinL (X + 2 * U) Y U V ∨ WinL (X - V) (Y + V) U V ∨ WinL X (Y - 2 * U) U V := by
  refine Classical.byContradiction fun h => ?_
  have a := w.out0 u (by omega) fun z => h (.inl z)
  have b := w.out1 u (by omega) fun z => h (.inr (.inl z))
  have c := w.out2 u (by omega) fun z => h (.inr (.inr z))
  obtain ⟨h1, h2, h3, h4, h5, h6, h7, h8⟩ := w
  omega
theorem WinL.gap1 (w : WinL X Y U V) (u : 0 < U) (lo : 7 * U < 5 * V) (hi : 2 * V ≤ 3 * U) : WinL (X - V) (Y + V) U V ∨ WinL X (Y - 2 * U) U V ∨ WinL (X + V) (Y + V) U V := by
  refine Classical.byContradiction fun h => ?_
  have a := w.out1 u (by omega) fun z => h (.inl z)
  have b := w.out2 u (by omega) fun z => h (.inr (.inl z))
  have c := w.out3 u (by omega) fun z => h (.inr (.inr z))
  obtain ⟨h1, h2, h3, h4, h5, h6, h7, h8⟩ := w
  omega
theorem WinL.gap2 (w : WinL X Y U V) (u : 0 < U) (lo : 7 * U < 5 * V) (hi : 2 * V ≤ 3 * U) : WinL X (Y - 2 * U) U V ∨ WinL (X + V) (Y + V) U V ∨ WinL (X - 2 * U) Y U V := by
  refine Classical.byContradiction fun h => ?_
  have a := w.out2 u (by omega) fun z => h (.inl z)
  have b := w.out3 u (by omega) fun z => h (.inr (.inl z))
  have c := w.out4 u (by omega) fun z => h (.inr (.inr z))
  obtain ⟨h1, h2, h3, h4, h5, h6, h7, h8⟩ := w
  omega
theorem WinL.gap3 (w : WinL X Y U V) (u : 0 < U) (lo : 7 * U < 5 * V) (hi : 2 * V ≤ 3 * U) : WinL (X + V) (Y + V) U V ∨ WinL (X - 2 * U) Y U V ∨ WinL (X + V) (Y - V) U V := by
  refine Classical.byContradiction fun h => ?_
  have a := w.out3 u (by omega) fun z => h (.inl z)
  have b := w.out4 u (by omega) fun z => h (.inr (.inl z))
  have c := w.out5 u (by omega) fun z => h (.inr (.inr z))
  obtain ⟨h1, h2, h3, h4, h5, h6, h7, h8⟩ := w
  omega
theorem WinL.gap4 (w : WinL X Y U V) (u : 0 < U) (lo : 7 * U < 5 * V) (hi : 2 * V ≤ 3 * U) : WinL (X - 2 * U) Y U V ∨ WinL (X + V) (Y - V) U V ∨ WinL X (Y + 2 * U) U V := by
  refine Classical.byContradiction fun h => ?_
  have a := w.out4 u (by omega) fun z => h (.inl z)
  have b := w.out5 u (by omega) fun z => h (.inr (.inl z))
  have c := w.out6 u (by omega) fun z => h (.inr (.inr z))
  obtain ⟨h1, h2, h3, h4, h5, h6, h7, h8⟩ := w
  omega
theorem WinL.gap5 (w : WinL X Y U V) (u : 0 < U) (lo : 7 * U < 5 * V) (hi : 2 * V ≤ 3 * U) : WinL (X + V) (Y - V) U V ∨ WinL X (Y + 2 * U) U V ∨ WinL (X - V) (Y - V) U V := by
  refine Classical.byContradiction fun h => ?_
  have a := w.out5 u (by omega) fun z => h (.inl z)
  have b := w.out6 u (by omega) fun z => h (.inr (.inl z))
  have c := w.out7 u (by omega) fun z => h (.inr (.inr z))
  obtain ⟨h1, h2, h3, h4, h5, h6, h7, h8⟩ := w
  omega
theorem WinL.gap6 (w : WinL X Y U V) (u : 0 < U) (lo : 7 * U < 5 * V) (hi : 2 * V ≤ 3 * U) : WinL X (Y + 2 * U) U V ∨ WinL (X - V) (Y - V) U V ∨ WinL (X + 2 * U) Y U V := by
  refine Classical.byContradiction fun h => ?_
  have a := w.out6 u (by omega) fun z => h (.inl z)
  have b := w.out7 u (by omega) fun z => h (.inr (.inl z))
  have c := w.out0 u (by omega) fun z => h (.inr (.inr z))
  obtain ⟨h1, h2, h3, h4, h5, h6, h7, h8⟩ := w
  omega
theorem WinL.gap7 (w : WinL X Y U V) (u : 0 < U) (lo : 7 * U < 5 * V) (hi : 2 * V ≤ 3 * U) : WinL (X - V) (Y - V) U V ∨ WinL (X + 2 * U) Y U V ∨ WinL (X - V) (Y + V) U V := by
  refine Classical.byContradiction fun h => ?_
  have a := w.out7 u (by omega) fun z => h (.inl z)
  have b := w.out0 u (by omega) fun z => h (.inr (.inl z))
  have c := w.out1 u (by omega) fun z => h (.inr (.inr z))
  obtain ⟨h1, h2, h3, h4, h5, h6, h7, h8⟩ := w
  omega
end
end L2.My

/-! W15: a op1 b op2 c op3 d. -/
namespace L2.My
open PySem PySem.Spec PyProof.Rows
section
variable {X : Cx} {a b c d : Expr} {ta tb tc td : TE} {pos : Pos}
/-- a op1 b op2 c op3 d -/
def tChain3 (r r' r'' : R2) (ta tb tc td : TE) : TE := fun σ H Q => ta σ H fun x H1 => tb σ H1 fun y H2 => r x y H2 fun z H3 => ∃ k, z = .bl k ∧
  (if k = true then tc σ H3 fun w' H4 => r' y w' H4 fun z2 H5 => ∃ k2, z2 = .bl k2 ∧ (if k2 = true then td σ H5 fun w'' H6 => r'' w' w'' H6 Q else Q (.bl false) H5) else Q (.bl false) H3)
theorem w_chain3 {r r' r'' : R2} {σ : L2.St} {H : Hp} {Q : VK} (q : ta σ H fun x H1 => tb σ H1 fun y H2 => r x y H2 fun z H3 => ∃ k, z = .bl k ∧
  (if k = true then tc σ H3 fun w' H4 => r' y w' H4 fun z2 H5 => ∃ k2, z2 = .bl k2 ∧ (if k2 = true then td σ H5 fun w'' H6 => r'' w' w'' H6 Q else Q (.bl false) H5) else Q (.bl false) H3)) : tChain3 r r' r'' ta tb tc td σ H Q := q
theorem pe_chain3 {op op' op'' : CmpOp} {r r' r'' : R2} (ho : OpR X (compareOp op) r) (ho' : OpR X (compareOp op') r') (ho'' : OpR X (compareOp op'') r'') (ha : PE X a ta) (hb : PE X b tb) (hc : PE X c tc) (hd : PE X d td)
    (hm : lastMarks [op, op', op''] [b, c, d] = false := by with_unfolding_all rfl) : PE X (.Compare a [op, op', op''] [b, c, d] pos) (tChain3 r r' r'' ta tb tc td) := by
  refine ⟨fun pins s σ H Q I h => ?_⟩
  refine Compare_chain (thn (ha.run pins s σ H _ I h) fun v s1 ⟨x, H1, I1, r1, q1⟩ => chain_link (thn (hb.run pins s1 σ H1 _ I1 q1) fun u s2 ⟨y, H2, I2, r2, q2⟩ =>
    thn (ho pins s2 σ H2 x y v u _ I2 r1 r2 q2) fun d s3 ⟨z, H3, I3, r3, k, e, q3⟩ => ?_)) hm
  subst e
  cases r3
  refine wpAny_truthy_bool ?_
  cases k with
  | false => exact ite_ff ⟨.bl false, H3, I3, rfl, q3⟩
  | true =>
    refine ite_tt (chain_link (thn (hc.run pins s3 σ H3 _ I3 q3) fun w1 s4 ⟨y2, H4, I4, r4, q4⟩ => thn (ho' pins s4 σ H4 y y2 u w1 _ I4 r2 r4 q4) fun d2 s5 ⟨z2, H5, I5, r5, k2, e2, q5⟩ => ?_))
    subst e2
    cases r5
    refine wpAny_truthy_bool ?_
    cases k2 with
    | false => exact ite_ff ⟨.bl false, H5, I5, rfl, q5⟩
    | true => exact ite_tt (chain_last (thn (hd.run pins s5 σ H5 _ I5 q5) fun w2 s6 ⟨y3, H6, I6, r6, q6⟩ => ho'' pins s6 σ H6 y2 y3 w1 w2 Q I6 r4 r6 q6))
end
/-! ### rules with the fragment told: a comprehension's context bears its own variables -/
theorem sl_tupZ {X : Cx} {K : PySem.W.Frag} (h : X.K = K) : SlR X (rSlA K) := by
  subst h
  exact sl_tupA
theorem op_catZ {X : Cx} {K : PySem.W.Frag} (h : X.K = K) : OpR X (binaryOp .Add) (rCatA K) := by
  subst h
  exact op_catA
theorem room65 {k : Nat} {A : Around} (r : Room k A) : A.units + 65 < cLine := by
  have := r.un
  omega
/-! ### walks over a list or a tuple -/
section
variable {X : Cx} {tg l : Expr} {w w' : TI} {tl : TE} {g : TG} {tb : TS} {D : Ends} {tt : TT} {te : TE} {ws : List Nat} {σ : L2.St} {H : Hp} {Q : VK}
def iOr (w w' : TI) : TI := fun σ H R => w σ H R ∨ w' σ H R
theorem PI.or (h : PI X tg l w) (h' : PI X tg l w') : PI X tg l (iOr w w') := ⟨fun pins s σ H R I q => q.elim (h.run pins s σ H R I) (h'.run pins s σ H R I)⟩
theorem pi_seq (hl : PE X l tl) : PI X tg l (iOr (iList X.K tl) (iTup X.K tl)) := PI.or (pi_list hl) (pi_tup hl)
theorem w_forOL (q : tFor w g tb D σ H) : tFor (iOr w w') g tb D σ H := .inl q
theorem w_forOT (q : tFor w' g tb D σ H) : tFor (iOr w w') g tb D σ H := .inr q
theorem w_lcOL (q : tLc w g tt te ws σ H Q) : tLc (iOr w w') g tt te ws σ H Q := .inl q
theorem w_lcOT (q : tLc w' g tt te ws σ H Q) : tLc (iOr w w') g tt te ws σ H Q := .inr q
end
end L2.My

/-! W16: fields in a comprehension. -/
namespace L2.My
open PySem PySem.Spec PyProof.Rows
section
variable {X : Cx} {e : Expr} {ta : TE} {pos : Pos} {f : Str} {K : PySem.W.Frag}
theorem pe_fldZ (h : X.K = K) (he : PE X e ta) (hb : attributeBase e f X.env (eval e X.env) = eval e X.env) : PE X (.Attribute e f pos) (tFld K ta f) := h ▸ pe_fld he hb
end
end L2.My

/-! W17: sorted of a list of data. -/
namespace L2.My
open PySem PySem.Spec PyProof.Rows
section
variable {X : Cx}
theorem each_rel {H : Hp} {pins : List (Addr × Obj)} {σ : St} {s : Shared} (I : Inv X pins σ H s) : ∀ {xs : List V} {ds : List PyData} {us : List Value}, Vals xs us → DpAll X.K H xs ds → PySem.W.EachIs (fun u (b : V × PyData) => RelV b.1 u ∧ ∃ as, Reads s.heap u b.2 as) us (xs.zip ds)
  | [], _, _, r, h => by
    cases h
    cases r
    exact .nil
  | x :: xs, _, _, r, h => by
    cases h with
    | cons hd ht =>
      cases r with
      | cons r1 rt => exact .cons ⟨r1, Dp.reads I _ _ _ hd r1⟩ (each_rel I rt ht)
theorem rel_each : ∀ {bs : List (V × PyData)} {us : List Value}, PySem.W.EachIs (fun u (b : V × PyData) => RelV b.1 u) us bs → Vals (bs.map Prod.fst) us
  | [], _, h => by
    cases h
    exact .nil
  | b :: bs, _, h => by
    cases h with
    | cons h1 ht => exact .cons h1 (rel_each ht)
theorem dp_len {K : PySem.W.Frag} {H : Hp} : ∀ {xs : List V} {ds : List PyData}, DpAll K H xs ds → xs.length = ds.length
  | [], _, h => by cases h; rfl
  | _ :: _, _, h => by
    cases h with
    | cons _ t => exact congrArg (· + 1) (dp_len t)
theorem zip_snd : ∀ {xs : List V} {ds : List PyData}, xs.length = ds.length → (xs.zip ds).map Prod.snd = ds
  | [], [], _ => rfl
  | x :: xs, d :: ds, h => by
    rw [List.zip_cons_cons, List.map_cons, zip_snd (Nat.succ.inj h)]
/-- the values xs, which read as ds, in order -/
def srtD (xs : List V) (ds : List PyData) : List (V × PyData) := (xs.zip ds).mergeSort (PySem.W.dataLe false Prod.snd)
def rSortedD (K : PySem.W.Frag) : List V → Hp → VK → Prop := fun vs H Q => ∃ a xs ds, vs = [.ref a] ∧ SqL K H a xs ∧ DpAll K H xs ds ∧ PySem.W.AllAlike ds ∧ PySem.W.Sortable ds ∧ (∀ d ∈ ds, d.depth ≤ 20) ∧
  ∀ p, H p = none → Q (.ref p) (upd H p (.lst ((srtD xs ds).map Prod.fst)))
theorem cr_sortedD (hu : X.A.units + 64 < cLine) : CallR X (.builtin "sorted") (rSortedD X.K) := by
  intro pins s σ H vs us Q I r h
  obtain ⟨a, xs, ds, rfl, hs, hd, al, so, hde, q⟩ := h
  obtain ⟨its, rv, hl, hz⟩ := I.list hs
  rw [Vals.ref1 r]
  have e := each_rel I rv hd
  have hzs := zip_snd (dp_len hd)
  have hlz : (xs.zip ds).length = xs.length := by rw [List.length_zip, ← dp_len hd, Nat.min_self]
  refine PySem.W.sorted_data (R := fun u (b : V × PyData) => RelV b.1 u) (bs := xs.zip ds) (enc := Prod.snd) hl.isList (e.mono fun _ _ h => h.1) (e.mono fun _ _ h => h.2) (by rw [hzs]; exact al) (by rw [hzs]; exact so) (by rw [hlz]; exact hz) (fun b hb => ?_) fun out ho hout => ?_
  · have : b.2 ∈ ds := by
      rw [← hzs]
      exact List.mem_map.mpr ⟨b, hb, rfl⟩
    have := hde _ this
    omega
  · obtain ⟨ep, he'⟩ := PyProof.Rows.sortedAll_at s.heap its out.toArray
    have hv := rel_each hout
    have hlen : ((srtD xs ds).map Prod.fst).length ≤ sizeLine := by
      rw [List.length_map]
      unfold srtD
      rw [List.length_mergeSort, hlz]
      exact hz
    exact ⟨.ref _, upd H (s.heap.objs.size + 1) (.lst ((srtD xs ds).map Prod.fst)), I.laid (t' := s.toks) (fun _ _ => PyProof.Rows.sortedAll_old) (Nat.le_succ _) ⟨hlen, out, ep, hv, he'⟩, rfl, q _ (I.hok.fresh (Nat.le_succ _))⟩
end
/-- the order of data: a value with what it reads as -/
theorem srtD_perm {xs : List V} {ds : List PyData} : (srtD xs ds).Perm (xs.zip ds) := List.mergeSort_perm _ _
end L2.My

/-! W18: a dict display of one pair, its key a tuple of ints and texts. -/
namespace L2.My
open PySem PySem.Spec PyProof.Rows
section
variable {X : Cx} {k v : Expr} {tk tv : TE} {pos : Pos}
def tDispT (tk tv : TE) : TE := fun σ H Q => ∀ p, H p = none → tk σ (upd H p (.dT [])) fun x H1 => tv σ H1 fun y H2 => H2 p = some (.dT []) ∧ ∃ (b : Addr) (kk : List L2.Key), x = .ref b ∧ H2 b = some (.tup (kk.map kV)) ∧ Q (.ref p) (upd H2 p (.dT [(kk, y)]))
theorem w_dispT {σ : L2.St} {H : Hp} {Q : VK} (q : ∀ p, H p = none → tk σ (upd H p (.dT [])) fun x H1 => tv σ H1 fun y H2 => H2 p = some (.dT []) ∧ ∃ (b : Addr) (kk : List L2.Key), x = .ref b ∧ H2 b = some (.tup (kk.map kV)) ∧ Q (.ref p) (upd H2 p (.dT [(kk, y)]))) : tDispT tk tv σ H Q := q
theorem pe_dispT (hu : X.A.units + 64 < cLine) (hk : PE X k tk) (hv : PE X v tv) : PE X (.Dict [some k] [v] pos) (tDispT tk tv) := by
  refine ⟨fun pins s σ H Q I q => ?_⟩
  have hn := I.hok.fresh (Nat.le_refl s.heap.objs.size)
  have I1 := I.laid (a := s.heap.objs.size) (o := .dT []) (h' := s.heap.push { cls := .type "dict", data := .dict #[] }) (t' := s.toks) (fun _ _ q => Heap.get?_push_of_some _ q) (Nat.le_refl _) (dt_empty s.heap I.big)
  have hl := pairTrees_length [some k] [v] X.env pos rfl rfl
  have hl1 : (pairTrees [some k] [v] X.env pos).length = 1 := hl
  rw [arm_eval_Dict, zip_pairTrees [some k] [v] X.env pos rfl rfl, dictDisplay_pairs _ (by intro e; rw [e] at hl1; cases hl1) (by omega)]
  refine wpAny_bind (wpAny_standAt (wpAny_bind (wpAny_subDictH (knd := tupleKind (mixKind X.prog X.w)) (show X.A.units < cLine by omega) (by omega) ?_)))
  refine pairTrees_cons_walk (thn (hk.run pins _ σ _ _ I1 (q _ hn)) fun u s1 ⟨x, H1, I1, rx, q1⟩ => thn (hv.run pins s1 σ H1 _ I1 q1) fun w2 s2 ⟨y, H2, I2, ry, e, b, kk, ex, eb, q2⟩ => pairTrees_nil_walk ?_)
  subst ex
  cases (show u = Value.ref b from rx)
  obtain ⟨z, hd, xs, rel, dd⟩ := dt_of I2.hok e
  cases rel
  refine ⟨[(kk, b, w2)], ⟨rfl, rfl, key_of I2.hok eb, trivial⟩, dd, fun h' tk' dd' hs => wpAny_pure ?_⟩
  obtain ⟨q', es, ep, hq, h2, h3, h4, _, h5⟩ := dd'
  have hz : [(kk, y)].length ≤ sizeLine := by
    rw [sizeLine_eq]
    exact Nat.le_of_ble_eq_true rfl
  have rel0 : KT H2 [] [] := .nil
  refine ⟨.ref s.heap.objs.size, upd H2 s.heap.objs.size (.dT [(kk, y)]), d_write I2 (by rw [e]; exact True.intro) hs ⟨q', hq⟩ ⟨hz, hd, _, (rel0.put kk eb ry).keeps fun c ys ec => ?_, q', es, ep, hq, h2, h3, h4, h5⟩, rfl, q2⟩
  rw [upd_ne (ne_of ec e (fun z => nomatch z))]
  exact ec
end
end L2.My

/-! W19: steps for dicts with tuple keys; lists sorted by data; few numbers below a bound. -/
namespace L2.My
open PySem PySem.Spec PyProof.Rows
def DninP (x y : V) (H : Hp) (Q : VK) : Prop := ∃ a o, x = .ref a ∧ DGet H a y o ∧ Q (.bl (!o.isSome)) H
theorem w_dnin {ty td : TE} {σ : L2.St} {H : Hp} {Q : VK} (q : ty σ H fun y H1 => td σ H1 fun x H2 => DninP x y H2 Q) : tDNotIn ty td σ H Q := q
theorem k_dninT {a b : Addr} {kvs : List (List L2.Key × V)} {k : List L2.Key} {H : Hp} {Q : VK} (h : H a = some (.dT kvs)) (hb : H b = some (.tup (k.map kV))) (q : Q (.bl (!(valV kvs k).isSome)) H) : DninP (.ref a) (.ref b) H Q := ⟨a, _, rfl, DGet.t h hb, q⟩
def DputP (x y v : V) (H : Hp) (N : Hp → Prop) : Prop := ∃ a H4, x = .ref a ∧ DPut H a y v H4 ∧ N H4
theorem w_dput {td ty tv : TE} {nx bk ct : L2.St → Hp → Prop} {rt : VK} {σ : L2.St} {H : Hp} (q : tv σ H fun v H1 => td σ H1 fun x H2 => ty σ H2 fun y H3 => DputP x y v H3 (nx σ)) : sDPut td ty tv ⟨nx, rt, bk, ct⟩ σ H := q
theorem k_dputT {a b : Addr} {kvs : List (List L2.Key × V)} {k : List L2.Key} {v : V} {H : Hp} {N : Hp → Prop} (h : H a = some (.dT kvs)) (hb : H b = some (.tup (k.map kV))) (hl : kvs.length < sizeLine) (q : N (upd H a (.dT (putK kvs k v)))) : DputP (.ref a) (.ref b) v H N := ⟨a, _, rfl, DPut.t h hb hl, q⟩
/-- all but tracked lists and dicts with tuple keys stays -/
def Kpt (H H' : Hp) : Prop := ∀ b o, (∀ xs, o ≠ .lst xs) → (∀ ks, o ≠ .dT ks) → H b = some o → H' b = some o
theorem Kpt.refl (H : Hp) : Kpt H H := fun _ _ _ _ h => h
theorem Kpt.trans {A B C : Hp} (h : Kpt A B) (k : Kpt B C) : Kpt A C := fun b o n m e => k b o n m (h b o n m e)
theorem Kpt.same {A B : Hp} (h : Same A B) : Kpt A B := fun b o _ _ e => h b o e
theorem Kpt.kps {A B : Hp} (h : Kps A B) : Kpt A B := fun b o n _ e => h b o n e
theorem Kpt.tup {A B : Hp} (h : Kpt A B) {a : Addr} {xs : List V} (e : A a = some (.tup xs)) : B a = some (.tup xs) := h _ _ (by intro xs z; cases z) (by intro xs z; cases z) e
theorem Kpt.updL {A : Hp} {p : Addr} {xs : List V} {o : HO} (h : A p = some (.lst xs)) : Kpt A (upd A p o) := fun b o' n _ e => by rw [upd_ne (fun z => by rw [z, h] at e; cases e; exact n _ rfl)]; exact e
theorem Kpt.updD {A : Hp} {p : Addr} {ks : List (List L2.Key × V)} {o : HO} (h : A p = some (.dT ks)) : Kpt A (upd A p o) := fun b o' _ m e => by rw [upd_ne (fun z => by rw [z, h] at e; cases e; exact m _ rfl)]; exact e
/-- unlike numbers below a bound are few -/
theorem nodup_lt : ∀ (n : Nat) (l : List Nat), l.Nodup → (∀ x ∈ l, x < n) → l.length ≤ n
  | 0, l, _, h => by
    cases l with
    | nil => exact Nat.le_refl _
    | cons x l => exact absurd (h x (by simp)) (by omega)
  | n + 1, l, d, h => by
    by_cases m : n ∈ l
    · have := nodup_lt n (l.erase n) (d.erase _) fun x hx => by
        have h1 := (d.mem_erase_iff).mp hx
        have := h x h1.2
        have h2 := h1.1
        omega
      rw [List.length_erase_of_mem m] at this
      omega
    · have := nodup_lt n l d fun x hx => by
        have h1 := h x hx
        have : x ≠ n := fun z => m (z ▸ hx)
        omega
      omega
/-- a row of unlike things that a number below a bound tells apart is short -/
theorem nodup_few {α : Type} {l : List α} {n : Nat} (f : α → Nat) (d : l.Nodup) (h : ∀ x ∈ l, f x < n) (inj : ∀ x ∈ l, ∀ y ∈ l, f x = f y → x = y) : l.length ≤ n := by
  have := nodup_lt n (l.map f) ?_ ?_
  · rwa [List.length_map] at this
  · exact (List.pairwise_map).mpr (d.imp_of_mem fun hx hy n z => n (inj _ hx _ hy z))
  · intro x hx
    obtain ⟨y, hy, rfl⟩ := List.mem_map.mp hx
    exact h y hy
end L2.My

local macro_rules | `(tactic| walk_at "side") => `(tactic| first | (exact Or.inl ⟨by omega, by omega⟩) | (exact Or.inr (Or.inl ⟨by omega, by omega⟩)) | (exact ⟨by decide, by decide⟩) | (show (0 : Int) < _; omega) | assumption | (exact ⟨by decide, by decide, by decide⟩))
local macro_rules | `(tactic| walk_at "st") => `(tactic| first | with_reducible exact L2.My.set0 | with_reducible exact L2.My.set1 | with_reducible exact L2.My.set2 | with_reducible exact L2.My.set3 | with_reducible exact L2.My.set4 | with_reducible exact L2.My.set5 | with_reducible exact L2.My.set6 | with_reducible exact L2.My.set7 | with_reducible exact L2.My.set8 | with_reducible exact L2.My.set9 | with_reducible exact L2.My.set10 | with_reducible exact L2.My.set11 | with_reducible exact L2.My.set12 | with_reducible exact L2.My.set13 | with_reducible exact L2.My.set14 | with_reducible exact L2.My.set15 | with_reducible exact L2.My.set16 | with_reducible exact L2.My.set17 | with_reducible exact L2.My.set18 | with_reducible exact L2.My.set19 | with_reducible exact L2.My.set20 | with_reducible exact L2.My.set21 | with_reducible exact L2.My.set22 | with_reducible exact L2.My.set23 | exact L2.My.set0 | exact L2.My.set1 | exact L2.My.set2 | exact L2.My.set3 | exact L2.My.set4 | exact L2.My.set5 | exact L2.My.set6 | exact L2.My.set7 | exact L2.My.set8 | exact L2.My.set9 | exact L2.My.set10 | exact L2.My.set11 | exact L2.My.set12 | exact L2.My.set13 | exact L2.My.set14 | exact L2.My.set15 | exact L2.My.set16 | exact L2.My.set17 | exact L2.My.set18 | exact L2.My.set19 | exact L2.My.set20 | exact L2.My.set21 | exact L2.My.set22 | exact L2.My.set23)
local macro_rules | `(tactic| walk_at "s") => `(tactic| first
  | with_reducible refine L2.My.w_seq ?_ | with_reducible refine L2.My.w_asg ?_ | with_reducible refine L2.My.w_op ?_ | with_reducible refine L2.My.w_ret ?_ | with_reducible refine L2.My.w_if ?_
  | ((with_reducible refine' L2.My.w_var ?hv ?_); (case hv => exact rfl)) | with_reducible refine L2.My.w_c ?_ | with_reducible refine L2.My.w_I0 ?_ | with_reducible refine L2.My.w_U ?_
  | ((with_reducible refine' L2.My.w_name ?hs ?_); (case hs => walk_at "st")) | with_reducible refine L2.My.w_next ?_ | with_reducible refine L2.My.w_drop ?_
  | with_reducible refine L2.My.w_test ?_ | with_reducible refine L2.My.w_B ?_ | with_reducible refine L2.My.w_bl ?_ | with_reducible refine L2.My.w_blV ?_ | with_reducible refine L2.My.w_and ?_ | with_reducible refine L2.My.w_or ?_ | with_reducible refine L2.My.w_not ?_
  | with_reducible refine L2.My.w_andV ?_ | with_reducible refine L2.My.w_orV ?_ | with_reducible refine L2.My.w_notV ?_ | with_reducible refine L2.My.w_un ?_
  | ((with_reducible refine' L2.My.w_T ?hc ?_); (case hc => exact rfl)) | ((with_reducible refine' L2.My.w_F ?hc ?_); (case hc => exact rfl))
  | with_reducible refine L2.My.w_cons ?_ | with_reducible refine L2.My.w_nil ?_ | with_reducible refine L2.My.w_call ?_ | with_reducible refine L2.My.w_cb ?_
  | with_reducible refine L2.My.w_tup ?_ | with_reducible refine L2.My.w_lst ?_ | with_reducible refine L2.My.w_fldE ?_ | with_reducible refine L2.My.w_mkO ?_ | with_reducible refine L2.My.w_int ?_ | with_reducible refine L2.My.w_intB ?_ | with_reducible refine L2.My.w_abs ?_ | with_reducible refine L2.My.w_yes ?_ | with_reducible refine L2.My.w_Tself ?_ | with_reducible refine L2.My.w_Fself ?_ | with_reducible refine L2.My.w_sl ?_ | with_reducible refine L2.My.w_dnew ?_ | with_reducible refine L2.My.w_isB ?_ | with_reducible refine L2.My.w_gsub ?_ | with_reducible refine L2.My.w_poN ?_ | with_reducible refine L2.My.w_poS ?_ | with_reducible refine L2.My.w_exI ?_
  | ((with_reducible refine' L2.My.w_I ?hc ?_); (case hc => walk_at "side"))
  | ((with_reducible refine' L2.My.w_ixL ?hh ?he ?_); (case hh => assumption); (case he => exact rfl)) | ((with_reducible refine' L2.My.w_ixT ?hh ?he ?_); (case hh => assumption); (case he => exact rfl))
  | with_reducible refine L2.My.w_xf ?_ | with_reducible refine L2.My.w_stoE ?_ | with_reducible refine L2.My.w_mkC ?_ | with_reducible refine L2.My.w_meth ?_
  | with_reducible refine L2.My.w_forT ?_ | with_reducible refine L2.My.w_forL ?_ | with_reducible refine L2.My.w_forR ?_ | with_reducible refine L2.My.w_forR2 ?_ | with_reducible refine L2.My.w_forZ ?_ | with_reducible refine L2.My.w_lcL ?_ | with_reducible refine L2.My.w_lcT ?_ | with_reducible refine L2.My.w_lcR ?_
  | with_reducible refine L2.My.w_ifx ?_ | with_reducible refine L2.My.w_truB ?_ | with_reducible refine L2.My.w_truI ?_
  | with_reducible refine L2.My.w_eq rfl ?_ | with_reducible refine L2.My.w_ne rfl ?_)
local macro_rules | `(tactic| walk_at "W") => `(tactic| repeat (walk_at "s"))

-- needs W9
namespace L2.My
open PySem PySem.Spec PyProof.Rows
def top (i : Nat) : Stmt := PySem.Challenge.pw_threetiles_k13_whole_around_by_steps.main.body.getD i (.Pass ⟨0, 0, 0, 0⟩)
/-- where the classes stand -/
structure Zs where
  K : PySem.W.Frag
  c_FloorError : Addr
  c_BadNumber : Addr
  c_BadPoint : Addr
  c_BadCorner : Addr
  c_Barred : Addr
  c_NoCorner : Addr
  c_BadSize : Addr
  c_Root : Addr
  c_Floor : Addr

/-- what the top has left -/
structure Txt (Z : Zs) (mg : Str → Option Value) : Prop where
  n_isinstance : mg "isinstance" = none
  n_list : mg "list" = none
  n_int : mg "int" = none
  n_range : mg "range" = none
  n_len : mg "len" = none
  n_abs : mg "abs" = none
  n_all : mg "all" = none
  n_tuple : mg "tuple" = none
  n_bool : mg "bool" = none
  n_enumerate : mg "enumerate" = none
  n_sorted : mg "sorted" = none
  g_gcd : mg "gcd" = some (.builtin "math.gcd")
  g_lcm : mg "lcm" = some (.builtin "math.lcm")
  g_FloorError : mg "FloorError" = some (.ref Z.c_FloorError)
  g_BadNumber : mg "BadNumber" = some (.ref Z.c_BadNumber)
  g_BadPoint : mg "BadPoint" = some (.ref Z.c_BadPoint)
  g_BadCorner : mg "BadCorner" = some (.ref Z.c_BadCorner)
  g_Barred : mg "Barred" = some (.ref Z.c_Barred)
  g_NoCorner : mg "NoCorner" = some (.ref Z.c_NoCorner)
  g_BadSize : mg "BadSize" = some (.ref Z.c_BadSize)
  g_Root : mg "Root" = some (.ref Z.c_Root)
  g_Floor : mg "Floor" = some (.ref Z.c_Floor)
  ki : KiT Z.K Z.c_Root
  nf_top : NoAttr Z.K Z.c_Root "top"
  nf_root : NoAttr Z.K Z.c_Root "root"
  nf_bottom : NoAttr Z.K Z.c_Root "bottom"
  ow : OwnB Z.K Z.c_Root
  ra : ∃ g, PySem.W.findIn Z.K (.ref Z.c_Root) "__radd__" = some (some (.ref g))
  rs : ∃ g, PySem.W.findIn Z.K (.ref Z.c_Root) "__rsub__" = some (some (.ref g))
  rm : ∃ g, PySem.W.findIn Z.K (.ref Z.c_Root) "__rmul__" = some (some (.ref g))
  c_Floor : Cls Z.K Z.c_Floor
  nf_Floor_shift : NoAttr Z.K Z.c_Floor "shift"
  nf_Floor__gauge : NoAttr Z.K Z.c_Floor "_gauge"
  x_BadNumber : OexC Z.K Z.c_BadNumber
  xn_BadNumber : PySem.W.findIn Z.K (.ref Z.c_BadNumber) "value" = some none
  xf_BadNumber : XfC Z.K Z.c_BadNumber
  xm_BadNumber : PySem.W.exmOne Z.K (.ref Z.c_BadNumber) (.ref Z.c_BadNumber) = some true
  x_BadPoint : OexC Z.K Z.c_BadPoint
  xn_BadPoint : PySem.W.findIn Z.K (.ref Z.c_BadPoint) "point" = some none
  xf_BadPoint : XfC Z.K Z.c_BadPoint
  xm_BadPoint : PySem.W.exmOne Z.K (.ref Z.c_BadPoint) (.ref Z.c_BadPoint) = some true
  x_BadCorner : OexC Z.K Z.c_BadCorner
  xn_BadCorner : PySem.W.findIn Z.K (.ref Z.c_BadCorner) "corner" = some none
  xf_BadCorner : XfC Z.K Z.c_BadCorner
  xm_BadCorner : PySem.W.exmOne Z.K (.ref Z.c_BadCorner) (.ref Z.c_BadCorner) = some true
  x_Barred : OexC Z.K Z.c_Barred
  xn_Barred : PySem.W.findIn Z.K (.ref Z.c_Barred) "direction" = some none
  xf_Barred : XfC Z.K Z.c_Barred
  xm_Barred : PySem.W.exmOne Z.K (.ref Z.c_Barred) (.ref Z.c_Barred) = some true
  x_NoCorner : OexC Z.K Z.c_NoCorner
  xn_NoCorner : PySem.W.findIn Z.K (.ref Z.c_NoCorner) "corner" = some none
  xf_NoCorner : XfC Z.K Z.c_NoCorner
  xm_NoCorner : PySem.W.exmOne Z.K (.ref Z.c_NoCorner) (.ref Z.c_NoCorner) = some true
  x_BadSize : OexC Z.K Z.c_BadSize
  xn_BadSize : PySem.W.findIn Z.K (.ref Z.c_BadSize) "size" = some none
  xf_BadSize : XfC Z.K Z.c_BadSize
  xm_BadSize : PySem.W.exmOne Z.K (.ref Z.c_BadSize) (.ref Z.c_BadSize) = some true
  xo_BadCorner_NoCorner : PySem.W.exmOne Z.K (.ref Z.c_BadCorner) (.ref Z.c_NoCorner) = some false
  xo_BadCorner_BadSize : PySem.W.exmOne Z.K (.ref Z.c_BadCorner) (.ref Z.c_BadSize) = some false
  xo_NoCorner_BadCorner : PySem.W.exmOne Z.K (.ref Z.c_NoCorner) (.ref Z.c_BadCorner) = some false
  xo_NoCorner_BadSize : PySem.W.exmOne Z.K (.ref Z.c_NoCorner) (.ref Z.c_BadSize) = some false
  xo_BadSize_BadCorner : PySem.W.exmOne Z.K (.ref Z.c_BadSize) (.ref Z.c_BadCorner) = some false
  xo_BadSize_NoCorner : PySem.W.exmOne Z.K (.ref Z.c_BadSize) (.ref Z.c_NoCorner) = some false
theorem Txt.c_Root {Z : Zs} {mg : Str → Option Value} (T : Txt Z mg) : Cls Z.K Z.c_Root := T.ki.ty
abbrev ThI (Z : Zs) (H : Hp) (v : V) : Prop := Th Z.c_Root H v
theorem Plain.thI {Z : Zs} {H : Hp} {v : V} (h : Plain H v) : ThI Z H v := h.th
theorem thI_ty {Z : Zs} {mg : Str → Option Value} {H : Hp} {v : V} (h : ThI Z H v) (T : Txt Z mg) : ∃ t, TyX Z.K H v t ∧ PySem.W.kitOne Z.K t (.type "int") = some (isI v || isB v) ∧ PySem.W.kitOne Z.K t (.type "bool") = some (isB v) := by
  obtain ⟨t, a, b, c, _⟩ := h.ty T.ki
  exact ⟨t, a, b, c⟩
theorem thI_same {Z : Zs} {H H' : Hp} {v : V} (h : ThI Z H v) (s : Same H H') : ThI Z H' v := h.same s
variable {P : Program} {w : World} {mg : Str → Option Value} {base : Heap} {Z : Zs}
abbrev s_is_integral : Stmt := top 14
theorem sc_is_integral : FnScope ["thing"] ["thing"] (defScope s_is_integral) := ⟨rfl, rfl, rfl, by decide +kernel, rfl, by decide +kernel, by decide +kernel⟩

def sp_is_integral (Z : Zs) : Sp := fun vs H Q E =>
  ∃ v, vs = [v] ∧ ThI Z H v ∧ Q (.bl (isI v)) H
theorem ok_is_integral (T : Txt Z mg)  (D : AtF Z.K mg "is_integral" "is_integral" s_is_integral ["thing"]) : Has P w Z.K mg base "is_integral" 1 ["thing"] (sp_is_integral Z) := by
  refine D.ok sc_is_integral (fun vs H Q E h => ?_) (fun cdv A outer s H vs Q E hr h => ?_)
  · obtain ⟨v, rfl, _⟩ := h
    rfl
  · refine ⟨_, (pss_one (ps_ret (pe_and (pe_callB call_isi rfl T.n_isinstance (by decide +kernel) (pa_cons (pv 0) (pa_cons (pe_bltn (v := .ty "int") rfl T.n_int (by decide +kernel) rfl) pa_nil))) (pe_one (pe_not (pe_callB call_isi rfl T.n_isinstance (by decide +kernel) (pa_cons (pv 0) (pa_cons (pe_bltn (v := .ty "bool") rfl T.n_bool (by decide +kernel) rfl) pa_nil)))))))), ?_⟩
    try simp only [cxOf]
    obtain ⟨v, rfl, hv, q⟩ := h
    obtain ⟨t, ty, k1, k2⟩ := thI_ty hv T
    walk_at "W"
    refine w_isi ty k1 ?_
    walk_at "W"
    cases e : isI v || isB v
    · walk_at "W"
      have : isI v = false := by cases v <;> simp_all [isI, isB]
      rw [this] at q; exact q
    · walk_at "W"
      refine w_isi ty k2 ?_
      walk_at "W"
      have : (!isB v) = isI v := by cases v <;> simp_all [isI, isB]
      rw [this]; exact q
abbrev s_BadPoint_init : Stmt := inClass (top 5) 0
theorem sc_BadPoint_init : FnScope ["self", "point"] ["self", "point"] (defScope s_BadPoint_init) := ⟨rfl, rfl, rfl, by decide +kernel, rfl, by decide +kernel, by decide +kernel⟩

def sp_BadPoint_init (Z : Zs) : Sp := fun vs H Q E =>
  spX Z.c_BadPoint "point" vs H Q E
theorem ok_BadPoint_init (T : Txt Z mg)  (D : AtX Z.K mg "BadPoint" Z.c_BadPoint "BadPoint.__init__" s_BadPoint_init ["self", "point"]) : HasX P w Z.K mg base "BadPoint" Z.c_BadPoint 1 ["self", "point"] (sp_BadPoint_init Z) := by
  refine D.ok sc_BadPoint_init (fun vs H Q E h => ?_) (fun cdv A outer s H vs Q E hr h => ?_)
  · obtain ⟨a, v, rfl, _⟩ := h
    rfl
  · refine ⟨_, (pss_one (ps_ost (pv 0) (pv 1))), ?_⟩
    try simp only [cxOf]
    obtain ⟨a, v, rfl, ha, q⟩ := h
    exact ⟨_, rfl, _, rfl, a, Z.c_BadPoint, rfl, T.x_BadPoint, T.xn_BadPoint, Or.inl ⟨ha, fun d hd hn => q d hd hn⟩⟩
abbrev s_BadCorner_init : Stmt := inClass (top 6) 0
theorem sc_BadCorner_init : FnScope ["self", "corner"] ["self", "corner"] (defScope s_BadCorner_init) := ⟨rfl, rfl, rfl, by decide +kernel, rfl, by decide +kernel, by decide +kernel⟩

def sp_BadCorner_init (Z : Zs) : Sp := fun vs H Q E =>
  spX Z.c_BadCorner "corner" vs H Q E
theorem ok_BadCorner_init (T : Txt Z mg)  (D : AtX Z.K mg "BadCorner" Z.c_BadCorner "BadCorner.__init__" s_BadCorner_init ["self", "corner"]) : HasX P w Z.K mg base "BadCorner" Z.c_BadCorner 1 ["self", "corner"] (sp_BadCorner_init Z) := by
  refine D.ok sc_BadCorner_init (fun vs H Q E h => ?_) (fun cdv A outer s H vs Q E hr h => ?_)
  · obtain ⟨a, v, rfl, _⟩ := h
    rfl
  · refine ⟨_, (pss_one (ps_ost (pv 0) (pv 1))), ?_⟩
    try simp only [cxOf]
    obtain ⟨a, v, rfl, ha, q⟩ := h
    exact ⟨_, rfl, _, rfl, a, Z.c_BadCorner, rfl, T.x_BadCorner, T.xn_BadCorner, Or.inl ⟨ha, fun d hd hn => q d hd hn⟩⟩
abbrev s_Barred_init : Stmt := inClass (top 7) 0
theorem sc_Barred_init : FnScope ["self", "direction"] ["self", "direction"] (defScope s_Barred_init) := ⟨rfl, rfl, rfl, by decide +kernel, rfl, by decide +kernel, by decide +kernel⟩

def sp_Barred_init (Z : Zs) : Sp := fun vs H Q E =>
  spX Z.c_Barred "direction" vs H Q E
theorem ok_Barred_init (T : Txt Z mg)  (D : AtX Z.K mg "Barred" Z.c_Barred "Barred.__init__" s_Barred_init ["self", "direction"]) : HasX P w Z.K mg base "Barred" Z.c_Barred 1 ["self", "direction"] (sp_Barred_init Z) := by
  refine D.ok sc_Barred_init (fun vs H Q E h => ?_) (fun cdv A outer s H vs Q E hr h => ?_)
  · obtain ⟨a, v, rfl, _⟩ := h
    rfl
  · refine ⟨_, (pss_one (ps_ost (pv 0) (pv 1))), ?_⟩
    try simp only [cxOf]
    obtain ⟨a, v, rfl, ha, q⟩ := h
    exact ⟨_, rfl, _, rfl, a, Z.c_Barred, rfl, T.x_Barred, T.xn_Barred, Or.inl ⟨ha, fun d hd hn => q d hd hn⟩⟩
abbrev s_NoCorner_init : Stmt := inClass (top 8) 0
theorem sc_NoCorner_init : FnScope ["self", "corner"] ["self", "corner"] (defScope s_NoCorner_init) := ⟨rfl, rfl, rfl, by decide +kernel, rfl, by decide +kernel, by decide +kernel⟩

def sp_NoCorner_init (Z : Zs) : Sp := fun vs H Q E =>
  spX Z.c_NoCorner "corner" vs H Q E
theorem ok_NoCorner_init (T : Txt Z mg)  (D : AtX Z.K mg "NoCorner" Z.c_NoCorner "NoCorner.__init__" s_NoCorner_init ["self", "corner"]) : HasX P w Z.K mg base "NoCorner" Z.c_NoCorner 1 ["self", "corner"] (sp_NoCorner_init Z) := by
  refine D.ok sc_NoCorner_init (fun vs H Q E h => ?_) (fun cdv A outer s H vs Q E hr h => ?_)
  · obtain ⟨a, v, rfl, _⟩ := h
    rfl
  · refine ⟨_, (pss_one (ps_ost (pv 0) (pv 1))), ?_⟩
    try simp only [cxOf]
    obtain ⟨a, v, rfl, ha, q⟩ := h
    exact ⟨_, rfl, _, rfl, a, Z.c_NoCorner, rfl, T.x_NoCorner, T.xn_NoCorner, Or.inl ⟨ha, fun d hd hn => q d hd hn⟩⟩
abbrev s_BadSize_init : Stmt := inClass (top 12) 0
theorem sc_BadSize_init : FnScope ["self", "size"] ["self", "size"] (defScope s_BadSize_init) := ⟨rfl, rfl, rfl, by decide +kernel, rfl, by decide +kernel, by decide +kernel⟩

def sp_BadSize_init (Z : Zs) : Sp := fun vs H Q E =>
  spX Z.c_BadSize "size" vs H Q E
theorem ok_BadSize_init (T : Txt Z mg)  (D : AtX Z.K mg "BadSize" Z.c_BadSize "BadSize.__init__" s_BadSize_init ["self", "size"]) : HasX P w Z.K mg base "BadSize" Z.c_BadSize 1 ["self", "size"] (sp_BadSize_init Z) := by
  refine D.ok sc_BadSize_init (fun vs H Q E h => ?_) (fun cdv A outer s H vs Q E hr h => ?_)
  · obtain ⟨a, v, rfl, _⟩ := h
    rfl
  · refine ⟨_, (pss_one (ps_ost (pv 0) (pv 1))), ?_⟩
    try simp only [cxOf]
    obtain ⟨a, v, rfl, ha, q⟩ := h
    exact ⟨_, rfl, _, rfl, a, Z.c_BadSize, rfl, T.x_BadSize, T.xn_BadSize, Or.inl ⟨ha, fun d hd hn => q d hd hn⟩⟩
abbrev s_BadNumber_init : Stmt := inClass (top 4) 0
theorem sc_BadNumber_init : FnScope ["self", "value"] ["self", "value"] (defScope s_BadNumber_init) := ⟨rfl, rfl, rfl, by decide +kernel, rfl, by decide +kernel, by decide +kernel⟩

def sp_BadNumber_init (Z : Zs) : Sp := fun vs H Q E =>
  spX Z.c_BadNumber "value" vs H Q E
theorem ok_BadNumber_init (T : Txt Z mg)  (D : AtX Z.K mg "BadNumber" Z.c_BadNumber "BadNumber.__init__" s_BadNumber_init ["self", "value"]) : HasX P w Z.K mg base "BadNumber" Z.c_BadNumber 1 ["self", "value"] (sp_BadNumber_init Z) := by
  refine D.ok sc_BadNumber_init (fun vs H Q E h => ?_) (fun cdv A outer s H vs Q E hr h => ?_)
  · obtain ⟨a, v, rfl, _⟩ := h
    rfl
  · refine ⟨_, (pss_one (ps_ost (pv 0) (pv 1))), ?_⟩
    try simp only [cxOf]
    obtain ⟨a, v, rfl, ha, q⟩ := h
    exact ⟨_, rfl, _, rfl, a, Z.c_BadNumber, rfl, T.x_BadNumber, T.xn_BadNumber, Or.inl ⟨ha, fun d hd hn => q d hd hn⟩⟩
/-- the common divisor with the sign that the bottom shall lose -/
def sg (t r b : Int) : Int := if b < 0 then -(((t.natAbs.gcd r.natAbs).gcd b.natAbs : Nat) : Int) else (((t.natAbs.gcd r.natAbs).gcd b.natAbs : Nat) : Int)
def lowT (t r b : Int) : Int := t.fdiv (sg t r b)
def lowR (t r b : Int) : Int := r.fdiv (sg t r b)
def lowB (t r b : Int) : Int := b.fdiv (sg t r b)
/-- the first of three that is no integer, or the last one if it is 0 -/
def badOf (a b c : V) : Option V := if isI a = false then some a else if isI b = false then some b else if isI c = false then some c else if c = .int 0 then some (.int 0) else none
theorem isI_int {v : V} (h : isI v = true) : ∃ i, v = .int i := by cases v <;> simp_all [isI]
theorem sg_ne {t r b : Int} (h : b ≠ 0) : sg t r b ≠ 0 := by
  have : 0 < (t.natAbs.gcd r.natAbs).gcd b.natAbs := Nat.gcd_pos_of_pos_right _ (Int.natAbs_pos.mpr h)
  unfold sg
  split <;> omega
theorem sg_le {t r b : Int} (h : b ≠ 0) : (sg t r b).natAbs ≤ b.natAbs := by
  have : (t.natAbs.gcd r.natAbs).gcd b.natAbs ≤ b.natAbs := Nat.le_of_dvd (Int.natAbs_pos.mpr h) (Nat.gcd_dvd_right _ _)
  unfold sg
  split <;> omega
theorem sg_div {t r b x : Int} (h : b ≠ 0) (hb : Bd b) : CDivN9 x (sg t r b) :=
  ⟨sg_ne h, Nat.lt_of_lt_of_le (PySem.Flt.log2_lt_of (by decide) (Nat.lt_of_le_of_lt (sg_le h) hb)) (by decide)⟩
abbrev s_Root_init : Stmt := inClass (top 19) 0
theorem sc_Root_init : FnScope ["self", "top", "root", "bottom", "value", "shared"] ["self", "top", "root", "bottom"] (defScope s_Root_init) := ⟨rfl, rfl, rfl, by decide +kernel, rfl, by decide +kernel, by decide +kernel⟩

def sp_Root_init (Z : Zs) : Sp := fun vs H Q E =>
  ∃ p dx a b c, vs = [.ref p, a, b, c] ∧ H p = some (.ins Z.c_Root dx []) ∧ Th Z.c_Root H a ∧ Th Z.c_Root H b ∧ Th Z.c_Root H c ∧ (∀ k, c = .int k → Bd k) ∧
    (∀ i j k, a = .int i → b = .int j → c = .int k → k ≠ 0 → ∀ H', SameX p H H' → H' p = some (.ins Z.c_Root dx (rootF (lowT i j k) (lowR i j k) (lowB i j k))) → Q .non H') ∧
    (∀ v, badOf a b c = some v → ∀ d H', H d = none → SameX p H H' → H' d = some (.xd [("value", v)]) → E (.ref Z.c_BadNumber) (some d) H')
theorem ok_Root_init (T : Txt Z mg) (h_BadNumber : HasX P w Z.K mg base "BadNumber" Z.c_BadNumber 1 ["self", "value"] (sp_BadNumber_init Z)) (h_is_integral : Has P w Z.K mg base "is_integral" 1 ["thing"] (sp_is_integral Z)) (D : AtC Z.K mg "Root" Z.c_Root "Root.__init__" s_Root_init ["self", "top", "root", "bottom"]) : HasC P w Z.K mg base "Root" Z.c_Root 3 ["self", "top", "root", "bottom"] (sp_Root_init Z) := by
  refine D.ok sc_Root_init (fun vs H Q E h => ?_) (fun cdv A outer s H vs Q E hr h => ?_)
  · obtain ⟨p, dx, a, b, c, rfl, _⟩ := h
    rfl
  · refine ⟨_, (pss_cons (ps_for (passes_of rfl) rfl (pi_tup (pe_tup (pa_cons (pv 1) (pa_cons (pv 2) (pa_cons (pv 3) pa_nil))))) (pg_name (i := 4) sc_Root_init.nd rfl (Or.inl rfl)) (pss_one (ps_if (pt_not (pt_val (pe_h (E := ED E) h_is_integral hr (paW (takes_of rfl rfl rfl rfl)) (pa_cons (pv 4) pa_nil)))) (pss_one (ps_raise rfl (takes_of rfl rfl rfl rfl) (pm_h T.x_BadNumber h_BadNumber hr (pa_cons (pv 4) pa_nil)))) pss_nil)))
      (pss_cons (ps_if (pt_cmpR op_eq (pv 3) pe_int (nomark _)) (pss_one (ps_raise rfl (takes_of rfl rfl rfl rfl) (pm_h T.x_BadNumber h_BadNumber hr (pa_cons (pv 3) pa_nil)))) pss_nil)
      (pss_cons (ps_set (i := 5) sc_Root_init.nd rfl (Or.inl rfl) (pe_callBfun cr_gcd3 rfl T.g_gcd (pa_cons (pv 1) (pa_cons (pv 2) (pa_cons (pv 3) pa_nil)))))
      (pss_cons (ps_if (pt_cmpR op_lt (pv 3) pe_int (nomark _)) (pss_one (ps_set (i := 5) sc_Root_init.nd rfl (Or.inl rfl) (pe_un un_neg (pv 5)))) pss_nil)
      (pss_cons (ps_fld (pv 0) (pe_op op_fdivV (pv 1) (pv 5)) rfl)
      (pss_cons (ps_fld (pv 0) (pe_op op_fdivV (pv 2) (pv 5)) rfl)
      (pss_one (ps_fld (pv 0) (pe_op op_fdivV (pv 3) (pv 5)) rfl)))))))), ?_⟩
    try simp only [cxOf]
    obtain ⟨p, dx, a, b, c, rfl, hp, ha, hb, hc, hk, ok, er⟩ := h
    walk_at "W"
    refine k_tup rfl fun p0 H1 hp0 s1 e1 => ?_
    refine k_forT (fun i σ H' => ∃ v, σ = [some (.ref p), some a, some b, some c, v, none] ∧ Same H1 H' ∧ ∀ j x, j < i → [a, b, c][j]? = some x → isI x = true) e1 ⟨none, rfl, Same.refl _, fun j x hj => absurd hj (Nat.not_lt_zero _)⟩ (fun i σ H' ⟨_, _, s2, _⟩ => s2 _ _ e1) ?_ ?_
    · rintro i x σ H' hx ⟨v, rfl, s2, hi⟩
      have s3 := s1.trans s2
      have hxT : Th Z.c_Root H' x := by
        rcases i with _ | _ | _ | i
        · cases hx; exact ha.same s3
        · cases hx; exact hb.same s3
        · cases hx; exact hc.same s3
        · simp at hx
      have bad : isI x = false → badOf a b c = some x := fun e => by
        rcases i with _ | _ | _ | i
        · cases hx; unfold badOf; rw [if_pos e]
        · cases hx; unfold badOf; rw [if_neg (by rw [hi 0 a (by decide) rfl]; simp), if_pos e]
        · cases hx; unfold badOf; rw [if_neg (by rw [hi 0 a (by decide) rfl]; simp), if_neg (by rw [hi 1 b (by decide) rfl]; simp), if_pos e]
        · simp at hx
      walk_at "W"
      refine ⟨x, rfl, hxT, ?_⟩
      walk_at "W"
      cases e : isI x
      · walk_at "W"
        refine k_mkO fun d H2 hd s4 e4 => ?_
        exact er x (bad e) d H2 (s3.free hd) (Same.x (s3.trans s4)) e4
      · walk_at "W"
        refine ⟨_, rfl, s2, fun j y hj hy => ?_⟩
        rcases Nat.lt_or_eq_of_le (Nat.lt_succ_iff.mp hj) with h | h
        · exact hi j y h hy
        · subst h; rw [hx] at hy; cases hy; exact e
    · rintro σ H' ⟨v, rfl, s2, hi⟩
      have s3 := s1.trans s2
      obtain ⟨i, rfl⟩ := isI_int (hi 0 a (by simp) rfl)
      obtain ⟨j, rfl⟩ := isI_int (hi 1 b (by simp) rfl)
      obtain ⟨k, rfl⟩ := isI_int (hi 2 c (by simp) rfl)
      walk_at "W"
      refine w_ite (fun h => ?_) (fun h => ?_)
      · obtain rfl : k = 0 := by injection h
        walk_at "W"
        refine k_mkO fun d H2 hd s4 e4 => ?_
        exact er _ rfl d H2 (s3.free hd) (Same.x (s3.trans s4)) e4
      · have hk0 : k ≠ 0 := fun z => h (by rw [z])
        have hkb := hk k rfl
        walk_at "W"
        refine ⟨i, j, k, rfl, ?_⟩
        walk_at "W"
        have hd : ∀ x, CDivN9 x (sg i j k) := fun x => sg_div hk0 hkb
        refine w_ite (fun hn => ?_) (fun hn => ?_)
        · walk_at "W"
          have eg : sg i j k = -(((i.natAbs.gcd j.natAbs).gcd k.natAbs : Nat) : Int) := if_pos hn
          rw [← eg]
          refine w_I (hd i) ?_
          walk_at "W"
          refine w_sto (s3 _ _ hp) T.c_Root T.nf_top rfl fun H3 s5 e5 => ?_
          rw [put1] at e5
          walk_at "W"
          refine w_I (hd j) ?_
          walk_at "W"
          refine w_sto e5 T.c_Root T.nf_root rfl fun H4 s6 e6 => ?_
          rw [put2] at e6
          walk_at "W"
          refine w_I (hd k) ?_
          walk_at "W"
          refine w_sto e6 T.c_Root T.nf_bottom rfl fun H5 s7 e7 => ?_
          rw [put3] at e7
          exact ok i j k rfl rfl rfl hk0 H5 ((Same.x s3).trans (s5.trans (s6.trans s7))) e7
        · walk_at "W"
          have eg : sg i j k = (((i.natAbs.gcd j.natAbs).gcd k.natAbs : Nat) : Int) := if_neg hn
          rw [← eg]
          refine w_I (hd i) ?_
          walk_at "W"
          refine w_sto (s3 _ _ hp) T.c_Root T.nf_top rfl fun H3 s5 e5 => ?_
          rw [put1] at e5
          walk_at "W"
          refine w_I (hd j) ?_
          walk_at "W"
          refine w_sto e5 T.c_Root T.nf_root rfl fun H4 s6 e6 => ?_
          rw [put2] at e6
          walk_at "W"
          refine w_I (hd k) ?_
          walk_at "W"
          refine w_sto e6 T.c_Root T.nf_bottom rfl fun H5 s7 e7 => ?_
          rw [put3] at e7
          exact ok i j k rfl rfl rfl hk0 H5 ((Same.x s3).trans (s5.trans (s6.trans s7))) e7
/-- what == says of a number and a thing -/
def eqRt (H : Hp) (t r b : Int) : V → Bool
  | .int n => decide (r = 0) && (decide (b = 1) && decide (t = n))
  | .ref a => match H a with
    | some (.ins _ _ fs) => decide (fs = rootF t r b)
    | _ => false
  | _ => false
abbrev s_Root_eq : Stmt := inClass (top 19) 1
theorem sc_Root_eq : FnScope ["self", "other"] ["self", "other"] (defScope s_Root_eq) := ⟨rfl, rfl, rfl, by decide +kernel, rfl, by decide +kernel, by decide +kernel⟩

def sp_Root_eq (Z : Zs) : Sp := fun vs H Q E =>
  ∃ v o t r b, vs = [v, o] ∧ RootAt Z.c_Root H v t r b ∧ Th Z.c_Root H o ∧ Q (.bl (eqRt H t r b o)) H
theorem ok_Root_eq (T : Txt Z mg) (h_is_integral : Has P w Z.K mg base "is_integral" 1 ["thing"] (sp_is_integral Z)) (D : AtM Z.K Z.c_Root "__eq__" "Root.__eq__" s_Root_eq ["self", "other"]) : HasM P w Z.K mg base Z.c_Root "__eq__" 2 ["self", "other"] (sp_Root_eq Z) := by
  refine D.ok sc_Root_eq (fun vs H Q E h => ?_) (fun cdv A outer s H vs Q E hr h => ?_)
  · obtain ⟨v, o, t, r, b, rfl, _⟩ := h
    rfl
  · refine ⟨_, (pss_cons (ps_if (pt_val (pe_callB call_isi rfl T.n_isinstance (by decide +kernel) (pa_cons (pv 1) (pa_cons (pe_glob (v := .ref Z.c_Root) rfl T.g_Root rfl) pa_nil)))) (pss_one (ps_ret (pe_and (pe_cmpR op_eq (pe_fld (pv 0) rfl) (pe_fld (pv 1) rfl) (nomark _)) (pe_and (pe_cmpR op_eq (pe_fld (pv 0) rfl) (pe_fld (pv 1) rfl) (nomark _)) (pe_one (pe_cmpR op_eq (pe_fld (pv 0) rfl) (pe_fld (pv 1) rfl) (nomark _))))))) pss_nil)
      (pss_one (ps_ret (pe_and (pe_h (E := ED E) h_is_integral hr (paW (takes_of rfl rfl rfl rfl)) (pa_cons (pv 1) pa_nil)) (pe_and (pe_cmpR op_eq (pe_fld (pv 0) rfl) pe_int (nomark _)) (pe_and (pe_cmpR op_eq (pe_fld (pv 0) rfl) pe_int (nomark _)) (pe_one (pe_cmpR op_eq (pe_fld (pv 0) rfl) (pv 1) (nomark _))))))))), ?_⟩
    try simp only [cxOf]
    obtain ⟨v, o, t, r, b, rfl, ⟨a, dx, rfl, ha⟩, ho, q⟩ := h
    obtain ⟨ty, hty, k1, k2, k3, _⟩ := ho.ty T.ki
    walk_at "W"
    refine w_isiC hty k3 ?_
    walk_at "W"
    cases ho with
    | root a' dx' t' r' b' e =>
      have ic : isC Z.c_Root H (.ref a') = true := by
        show (match H a' with | some (.ins C _ _) => decide (C = Z.c_Root) | _ => false) = true
        rw [e]
        exact decide_eq_true rfl
      have er : eqRt H t r b (.ref a') = (decide (t = t') && (decide (r = r') && decide (b = b'))) := by
        show (match H a' with | some (.ins _ _ fs) => decide (fs = rootF t r b) | _ => false) = _
        rw [e]
        simp only [rf_eq, Bool.decide_and]
        rw [decide_eq_decide.mpr (eq_comm (a := t') (b := t)), decide_eq_decide.mpr (eq_comm (a := r') (b := r)), decide_eq_decide.mpr (eq_comm (a := b') (b := b))]
      rw [ic]
      rw [er] at q
      walk_at "W"
      refine w_fld ha T.c_Root T.nf_top (rf_top _ _ _) ?_
      walk_at "W"
      refine w_fld e T.c_Root T.nf_top (rf_top _ _ _) ?_
      walk_at "W"
      rw [decide_eq_decide.mpr (show V.int t = V.int t' ↔ t = t' by simp)]
      cases h1 : decide (t = t')
      · walk_at "W"
        rw [h1] at q
        exact q
      walk_at "W"
      refine w_fld ha T.c_Root T.nf_root (rf_root _ _ _) ?_
      walk_at "W"
      refine w_fld e T.c_Root T.nf_root (rf_root _ _ _) ?_
      walk_at "W"
      rw [decide_eq_decide.mpr (show V.int r = V.int r' ↔ r = r' by simp)]
      cases h2 : decide (r = r')
      · walk_at "W"
        rw [h1, h2] at q
        exact q
      walk_at "W"
      refine w_fld ha T.c_Root T.nf_bottom (rf_bottom _ _ _) ?_
      walk_at "W"
      refine w_fld e T.c_Root T.nf_bottom (rf_bottom _ _ _) ?_
      walk_at "W"
      rw [decide_eq_decide.mpr (show V.int b = V.int b' ↔ b = b' by simp)]
      rw [h1, h2] at q
      exact q
    | int n =>
      walk_at "W"
      refine ⟨_, rfl, .int n, ?_⟩
      walk_at "W"
      refine w_fld ha T.c_Root T.nf_root (rf_root _ _ _) ?_
      walk_at "W"
      have q' : Q (.bl (decide (r = 0) && (decide (b = 1) && decide (t = n)))) H := q
      rw [decide_eq_decide.mpr (show V.int r = V.int 0 ↔ r = 0 by simp)]
      cases h1 : decide (r = 0)
      · walk_at "W"
        rw [h1] at q'
        exact q'
      walk_at "W"
      refine w_fld ha T.c_Root T.nf_bottom (rf_bottom _ _ _) ?_
      walk_at "W"
      rw [decide_eq_decide.mpr (show V.int b = V.int 1 ↔ b = 1 by simp)]
      cases h2 : decide (b = 1)
      · walk_at "W"
        rw [h1, h2] at q'
        exact q'
      walk_at "W"
      refine w_fld ha T.c_Root T.nf_top (rf_top _ _ _) ?_
      walk_at "W"
      rw [decide_eq_decide.mpr (show V.int t = V.int n ↔ t = n by simp)]
      rw [h1, h2] at q'
      exact q'
    | non => walk_at "W"; exact ⟨_, rfl, .non, by walk_at "W"; exact q⟩
    | bl y => walk_at "W"; exact ⟨_, rfl, .bl y, by walk_at "W"; exact q⟩
    | str y => walk_at "W"; exact ⟨_, rfl, .str y, by walk_at "W"; exact q⟩
    | lst a' xs e =>
      have ic : isC Z.c_Root H (.ref a') = false := by unfold isC; simp only [e]
      have er : eqRt H t r b (.ref a') = false := by unfold eqRt; simp only [e]
      rw [ic]; rw [er] at q
      walk_at "W"; exact ⟨_, rfl, .lst a' xs e, by walk_at "W"; exact q⟩
    | tup a' xs e =>
      have ic : isC Z.c_Root H (.ref a') = false := by unfold isC; simp only [e]
      have er : eqRt H t r b (.ref a') = false := by unfold eqRt; simp only [e]
      rw [ic]; rw [er] at q
      walk_at "W"; exact ⟨_, rfl, .tup a' xs e, by walk_at "W"; exact q⟩
    | dK a' xs e =>
      have ic : isC Z.c_Root H (.ref a') = false := by unfold isC; simp only [e]
      have er : eqRt H t r b (.ref a') = false := by unfold eqRt; simp only [e]
      rw [ic]; rw [er] at q
      walk_at "W"; exact ⟨_, rfl, .dK a' xs e, by walk_at "W"; exact q⟩
/-- Root(a, b, c) of any things, from its __init__'s promise -/
theorem k_mkRoot {a b c : V} {H : Hp} {Q : VK} {E : XK} (ha : Th Z.c_Root H a) (hb : Th Z.c_Root H b) (hc : Th Z.c_Root H c) (hk : ∀ k, c = .int k → Bd k)
    (ok : ∀ i j k, a = .int i → b = .int j → c = .int k → k ≠ 0 → ∀ v H', Same H H' → RootAt Z.c_Root H' v (lowT i j k) (lowR i j k) (lowB i j k) → Q v H')
    (er : ∀ v, badOf a b c = some v → ∀ d H', H d = none → Same H H' → H' d = some (.xd [("value", v)]) → E (.ref Z.c_BadNumber) (some d) H') : MkC Z.c_Root (sp_Root_init Z) E [a, b, c] H Q := by
  intro x dx nx ndx nex
  have s0 : Same H (upd (upd H dx (.own x)) x (.ins Z.c_Root dx [])) := fun b o e => by
    rw [upd_ne (ne_of_none e nx), upd_ne (ne_of_none e ndx)]; exact e
  have sx : ∀ H', SameX x (upd (upd H dx (.own x)) x (.ins Z.c_Root dx [])) H' → Same H H' := fun H' s b o e => s b o (ne_of_none e nx) (s0 b o e)
  refine ⟨x, dx, a, b, c, rfl, upd_same, ha.same s0, hb.same s0, hc.same s0, hk, fun i j k e1 e2 e3 n H' s e => ⟨rfl, ok i j k e1 e2 e3 n _ H' (sx H' s) ⟨x, dx, rfl, e⟩⟩, fun v e d H' hd s ed => er v e d H' ?_ (sx H' s) ed⟩
  cases q : H d with
  | none => rfl
  | some o => rw [s0 d o q] at hd; cases hd
/-- .. of three ints, the last one not 0 -/
theorem k_mkRootI {i j k : Int} {H : Hp} {Q : VK} {E : XK} (n : k ≠ 0) (hk : Bd k)
    (ok : ∀ v H', Same H H' → RootAt Z.c_Root H' v (lowT i j k) (lowR i j k) (lowB i j k) → Q v H') : MkC Z.c_Root (sp_Root_init Z) E [.int i, .int j, .int k] H Q :=
  k_mkRoot (.int i) (.int j) (.int k) (fun k' e => by injection e with e; rw [← e]; exact hk) (fun i' j' k' e1 e2 e3 _ => by injection e1 with e1; injection e2 with e2; injection e3 with e3; rw [← e1, ← e2, ← e3]; exact ok)
    (fun v e => by
      exfalso
      unfold badOf at e
      rw [if_neg (by simp [isI]), if_neg (by simp [isI]), if_neg (by simp [isI]), if_neg (by intro z; injection z with z; exact n z)] at e
      cases e)
abbrev s_Root_neg : Stmt := inClass (top 19) 8
theorem sc_Root_neg : FnScope ["self"] ["self"] (defScope s_Root_neg) := ⟨rfl, rfl, rfl, by decide +kernel, rfl, by decide +kernel, by decide +kernel⟩

def sp_Root_neg (Z : Zs) : Sp := fun vs H Q E =>
  ∃ v t r b, vs = [v] ∧ RootAt Z.c_Root H v t r b ∧ b ≠ 0 ∧ Bd b ∧ ∀ v' H', Same H H' → RootAt Z.c_Root H' v' (lowT (-t) (-r) b) (lowR (-t) (-r) b) (lowB (-t) (-r) b) → Q v' H'
theorem ok_Root_neg (T : Txt Z mg) (h_Root : HasC P w Z.K mg base "Root" Z.c_Root 3 ["self", "top", "root", "bottom"] (sp_Root_init Z)) (D : AtM Z.K Z.c_Root "__neg__" "Root.__neg__" s_Root_neg ["self"]) : HasM P w Z.K mg base Z.c_Root "__neg__" 5 ["self"] (sp_Root_neg Z) := by
  refine D.ok sc_Root_neg (fun vs H Q E h => ?_) (fun cdv A outer s H vs Q E hr h => ?_)
  · obtain ⟨v, t, r, b, rfl, _⟩ := h
    rfl
  · refine ⟨_, (pss_one (ps_ret (pe_hc (E := ED E) h_Root hr (paW (takes_of rfl rfl rfl rfl)) (pa_cons (pe_un un_neg (pe_fld (pv 0) rfl)) (pa_cons (pe_un un_neg (pe_fld (pv 0) rfl)) (pa_cons (pe_fld (pv 0) rfl) pa_nil)))))), ?_⟩
    try simp only [cxOf]
    obtain ⟨v, t, r, b, rfl, ⟨a, dx, rfl, ha⟩, hb, hk, q⟩ := h
    walk_at "W"
    refine w_fld ha T.c_Root T.nf_top (rf_top _ _ _) ?_
    walk_at "W"
    refine w_fld ha T.c_Root T.nf_root (rf_root _ _ _) ?_
    walk_at "W"
    refine w_fld ha T.c_Root T.nf_bottom (rf_bottom _ _ _) ?_
    walk_at "W"
    exact k_mkRootI hb hk q
local macro_rules | `(tactic| walk_at "bw") => `(tactic| first | assumption | exact L2.My.Bw.two | exact L2.My.Bw.zero | exact L2.My.Bw.one | ((refine' L2.My.Bw.mul ?hx ?hy); (case hx => walk_at "bw"); (case hy => walk_at "bw")) | ((refine' L2.My.Bw.add ?hx ?hy); (case hx => walk_at "bw"); (case hy => walk_at "bw")) | ((refine' L2.My.Bw.sub ?hx ?hy); (case hx => walk_at "bw"); (case hy => walk_at "bw")) | ((refine' L2.My.Bw.neg ?hx); (case hx => walk_at "bw")))
local macro_rules | `(tactic| walk_at "mul") => `(tactic| ((refine' L2.My.w_I (L2.My.bwm (m := ?m) (n := ?n) ?hx ?hy ?hm) ?_); (case hx => walk_at "bw"); (case hy => walk_at "bw"); (case hm => decide)))
/-- what two numbers make -/
structure F3 where
  t : Int → Int → Int → Int → Int → Int → Int
  r : Int → Int → Int → Int → Int → Int → Int
  b : Int → Int → Int → Int → Int → Int → Int
def plus : F3 := ⟨fun t _ b t' _ b' => t * b' + t' * b, fun _ r b _ r' b' => r * b' + r' * b, fun _ _ b _ _ b' => b * b'⟩
def minus : F3 := ⟨fun t _ b t' _ b' => t * b' - t' * b, fun _ r b _ r' b' => r * b' - r' * b, fun _ _ b _ _ b' => b * b'⟩
def times : F3 := ⟨fun t r _ t' r' _ => t * t' + 2 * r * r', fun t r _ t' r' _ => t * r' + r * t', fun _ _ b _ _ b' => b * b'⟩
/-- other minus one -/
def back (F : F3) : F3 := ⟨fun t r b t' r' b' => F.t t' r' b' t r b, fun t r b t' r' b' => F.r t' r' b' t r b, fun t r b t' r' b' => F.b t' r' b' t r b⟩
/-- three parts that are not too great -/
def B3 (t r b : Int) : Prop := Bw 1000 t ∧ Bw 1000 r ∧ Bw 1000 b
def T3 (H : Hp) (p : Addr) (t r b : Int) : Prop := H p = some (.tup [.int t, .int r, .int b])
def spTwo (F : F3) : Sp := fun vs H Q _ => ∃ p p' t r b t' r' b', vs = [.ref p, .ref p'] ∧ T3 H p t r b ∧ T3 H p' t' r' b' ∧ B3 t r b ∧ B3 t' r' b' ∧
  ∀ u H', H u = none → Same H H' → T3 H' u (F.t t r b t' r' b') (F.r t r b t' r' b') (F.b t r b t' r' b') → Q (.ref u) H'
/-! ### lowest terms -/
theorem fdiv_exact {g x : Int} (h : g ≠ 0) (d : g ∣ x) : x.fdiv g * g = x := by
  obtain ⟨c, rfl⟩ := d
  rw [Int.mul_comm g c, Int.mul_fdiv_cancel _ h]
theorem sg_dvd (t r b : Int) : sg t r b ∣ t ∧ sg t r b ∣ r ∧ sg t r b ∣ b := by
  have h1 : (((t.natAbs.gcd r.natAbs).gcd b.natAbs : Nat) : Int) ∣ t := Int.ofNat_dvd_left.mpr (Nat.dvd_trans (Nat.gcd_dvd_left _ _) (Nat.gcd_dvd_left _ _))
  have h2 : (((t.natAbs.gcd r.natAbs).gcd b.natAbs : Nat) : Int) ∣ r := Int.ofNat_dvd_left.mpr (Nat.dvd_trans (Nat.gcd_dvd_left _ _) (Nat.gcd_dvd_right _ _))
  have h3 : (((t.natAbs.gcd r.natAbs).gcd b.natAbs : Nat) : Int) ∣ b := Int.ofNat_dvd_left.mpr (Nat.gcd_dvd_right _ _)
  unfold sg
  split
  · exact ⟨Int.neg_dvd.mpr h1, Int.neg_dvd.mpr h2, Int.neg_dvd.mpr h3⟩
  · exact ⟨h1, h2, h3⟩
/-- t r b are x y z, each times one number that is not 0, z is above 0 and no number above 1 divides x, y, z -/
structure Low (t r b x y z : Int) : Prop where
  s : ∃ s : Int, s ≠ 0 ∧ t = x * s ∧ r = y * s ∧ b = z * s
  pos : 0 < z
  one : (x.natAbs.gcd y.natAbs).gcd z.natAbs = 1
theorem low_is {t r b : Int} (h : b ≠ 0) : Low t r b (lowT t r b) (lowR t r b) (lowB t r b) := by
  have hs := sg_ne (t := t) (r := r) h
  obtain ⟨d1, d2, d3⟩ := sg_dvd t r b
  have e1 := fdiv_exact hs d1
  have e2 := fdiv_exact hs d2
  have e3 := fdiv_exact hs d3
  refine ⟨⟨_, hs, e1.symm, e2.symm, e3.symm⟩, ?_, ?_⟩
  · have hz : lowB t r b * sg t r b = b := e3
    have hsg : (b < 0 → sg t r b < 0) ∧ (¬ b < 0 → 0 < sg t r b) := by
      have : 0 < (t.natAbs.gcd r.natAbs).gcd b.natAbs := Nat.gcd_pos_of_pos_right _ (Int.natAbs_pos.mpr h)
      unfold sg
      constructor <;> intro hb <;> simp only [hb, if_true, if_false] <;> omega
    rcases Int.lt_trichotomy (lowB t r b) 0 with z | z | z
    · exfalso
      by_cases hb : b < 0
      · have := Int.mul_pos_of_neg_of_neg z (hsg.1 hb); omega
      · have := Int.mul_neg_of_neg_of_pos z (hsg.2 hb); omega
    · rw [z] at hz; omega
    · exact z
  · have hg : 0 < (t.natAbs.gcd r.natAbs).gcd b.natAbs := Nat.gcd_pos_of_pos_right _ (Int.natAbs_pos.mpr h)
    have hn : (sg t r b).natAbs = (t.natAbs.gcd r.natAbs).gcd b.natAbs := by unfold sg; split <;> omega
    have f1 : t.natAbs = (lowT t r b).natAbs * (sg t r b).natAbs := by rw [← Int.natAbs_mul]; exact congrArg _ e1.symm
    have f2 : r.natAbs = (lowR t r b).natAbs * (sg t r b).natAbs := by rw [← Int.natAbs_mul]; exact congrArg _ e2.symm
    have f3 : b.natAbs = (lowB t r b).natAbs * (sg t r b).natAbs := by rw [← Int.natAbs_mul]; exact congrArg _ e3.symm
    have : (((lowT t r b).natAbs.gcd (lowR t r b).natAbs).gcd (lowB t r b).natAbs) * (sg t r b).natAbs = 1 * (sg t r b).natAbs := by
      rw [← Nat.gcd_mul_right, ← Nat.gcd_mul_right, ← f1, ← f2, ← f3, Nat.one_mul, hn]
    exact Nat.eq_of_mul_eq_mul_right (by rw [hn]; exact hg) this
/-- lowest terms are told by the number alone -/
theorem Low.uniq {t r b x y z x' y' z' : Int} (h : Low t r b x y z) (h' : Low t r b x' y' z') : x = x' ∧ y = y' ∧ z = z' := by
  obtain ⟨⟨s, hs, a1, a2, a3⟩, p, o⟩ := h
  obtain ⟨⟨s', hs', b1, b2, b3⟩, p', o'⟩ := h'
  have k : ∀ {x y z s x' y' z' s' : Int}, x * s = x' * s' → y * s = y' * s' → z * s = z' * s' → ((x.natAbs.gcd y.natAbs).gcd z.natAbs) * s.natAbs = ((x'.natAbs.gcd y'.natAbs).gcd z'.natAbs) * s'.natAbs := fun {x y z s x' y' z' s'} h1 h2 h3 => by
    rw [← Nat.gcd_mul_right, ← Nat.gcd_mul_right, ← Nat.gcd_mul_right, ← Nat.gcd_mul_right, ← Int.natAbs_mul, ← Int.natAbs_mul, ← Int.natAbs_mul, ← Int.natAbs_mul, ← Int.natAbs_mul, ← Int.natAbs_mul, h1, h2, h3]
  have e := k (a1.symm.trans b1) (a2.symm.trans b2) (a3.symm.trans b3)
  rw [o, o', Nat.one_mul, Nat.one_mul] at e
  have ez : z * s = z' * s' := a3.symm.trans b3
  have es : s = s' := by
    rcases Int.natAbs_eq_natAbs_iff.mp e with q | q
    · exact q
    · exfalso
      rw [q, Int.mul_neg] at ez
      have : (z + z') * s' = 0 := by rw [Int.add_mul, ← ez]; omega
      rcases Int.mul_eq_zero.mp this with w | w
      · omega
      · exact hs' w
  subst es
  exact ⟨Int.eq_of_mul_eq_mul_right hs (a1.symm.trans b1), Int.eq_of_mul_eq_mul_right hs (a2.symm.trans b2), Int.eq_of_mul_eq_mul_right hs ez⟩
theorem Low.eqs {t r b x y z : Int} (h : Low t r b x y z) (hb : b ≠ 0) : x = lowT t r b ∧ y = lowR t r b ∧ z = lowB t r b := h.uniq (low_is hb)
theorem Low.zle {t r b x y z : Int} (h : Low t r b x y z) : z.natAbs ≤ b.natAbs := by
  obtain ⟨⟨s, hs, _, _, e⟩, _, _⟩ := h
  rw [e, Int.natAbs_mul]
  exact Nat.le_mul_of_pos_right _ (Int.natAbs_pos.mpr hs)
theorem Low.self {t r b x y z : Int} (h : Low t r b x y z) : Low x y z x y z := ⟨⟨1, by decide, by simp, by simp, by simp⟩, h.pos, h.one⟩
theorem Low.scale {t r b x y z : Int} (h : Low t r b x y z) {f : Int} (hf : f ≠ 0) : Low (t * f) (r * f) (b * f) x y z := by
  obtain ⟨⟨s, hs, a1, a2, a3⟩, p, o⟩ := h
  exact ⟨⟨s * f, Int.mul_ne_zero hs hf, by rw [a1, Int.mul_assoc], by rw [a2, Int.mul_assoc], by rw [a3, Int.mul_assoc]⟩, p, o⟩
theorem Low.turned {t r b x y z : Int} (h : Low t r b x y z) : Low t (-r) b x (-y) z := by
  obtain ⟨⟨s, hs, a1, a2, a3⟩, p, o⟩ := h
  exact ⟨⟨s, hs, a1, by rw [a2, Int.neg_mul], a3⟩, p, by rw [Int.natAbs_neg]; exact o⟩
theorem Low.neg {t r b x y z : Int} (h : Low t r b x y z) : Low (-t) (-r) b (-x) (-y) z := by
  obtain ⟨⟨s, hs, a1, a2, a3⟩, p, o⟩ := h
  exact ⟨⟨s, hs, by rw [a1, Int.neg_mul], by rw [a2, Int.neg_mul], a3⟩, p, by rw [Int.natAbs_neg, Int.natAbs_neg]; exact o⟩
theorem Low.far {t r b x y z x' y' z' : Int} (h : Low t r b x y z) (h' : Low (t + b) r b x' y' z') (hb : b ≠ 0) : ¬ (x' = x ∧ y' = y ∧ z' = z) := by
  rintro ⟨rfl, rfl, rfl⟩
  obtain ⟨⟨s, hs, a1, a2, a3⟩, p, o⟩ := h
  obtain ⟨⟨s', hs', b1, b2, b3⟩, _, _⟩ := h'
  have : s = s' := Int.eq_of_mul_eq_mul_left (by omega) (a3.symm.trans b3)
  subst this
  rw [← a1] at b1
  omega
theorem Low.aside {t r b x y z x' y' z' : Int} (h : Low t r b x y z) (h' : Low t (r + 1) b x' y' z') : ¬ (x' = x ∧ y' = y ∧ z' = z) := by
  rintro ⟨rfl, rfl, rfl⟩
  obtain ⟨⟨s, hs, a1, a2, a3⟩, p, o⟩ := h
  obtain ⟨⟨s', hs', b1, b2, b3⟩, _, _⟩ := h'
  have : s = s' := Int.eq_of_mul_eq_mul_left (by omega) (a3.symm.trans b3)
  subst this
  rw [← a2] at b2
  omega
theorem Low.whole {t r b x y z : Int} (h : Low t r b x y z) (w : Int) : (y = 0 ∧ z = 1 ∧ x = w) ↔ (r = 0 ∧ t = w * b) := by
  obtain ⟨⟨s, hs, a1, a2, a3⟩, p, o⟩ := h
  constructor
  · rintro ⟨rfl, rfl, rfl⟩
    rw [Int.one_mul] at a3
    rw [a3]
    exact ⟨by rw [a2, Int.zero_mul], a1⟩
  · rintro ⟨hr, ht⟩
    have hy : y = 0 := by
      rcases Int.mul_eq_zero.mp (a2.symm.trans hr) with q | q
      · exact q
      · exact absurd q hs
    have hx : x = w * z := by
      rw [a1, a3, ← Int.mul_assoc] at ht
      exact Int.eq_of_mul_eq_mul_right hs ht
    subst hy
    rw [hx, Int.natAbs_zero, Nat.gcd_zero_right, Int.natAbs_mul, Nat.gcd_mul_left_left] at o
    have : z = 1 := by omega
    subst this
    exact ⟨rfl, rfl, by rw [hx, Int.mul_one]⟩
theorem eqRt_root {H : Hp} {t r b t' r' b' : Int} {v : V} {c : Addr} (h : RootAt c H v t' r' b') : eqRt H t r b v = decide (t' = t ∧ r' = r ∧ b' = b) := by
  obtain ⟨a, dx, rfl, e⟩ := h
  unfold eqRt
  simp only [e, rf_eq]
theorem RootAt.th {c : Addr} {H : Hp} {v : V} {t r b : Int} (h : RootAt c H v t r b) : Th c H v := by
  obtain ⟨a, dx, rfl, e⟩ := h
  exact .root a dx t r b e
theorem RootAt.sx {c st sc : Addr} {H H' : Hp} {v : V} {t r b : Int} (h : RootAt c H v t r b) (hs : StA H st sc) (s : SameX st H H') : RootAt c H' v t r b := by
  obtain ⟨a, dx, rfl, e⟩ := h
  exact ⟨a, dx, rfl, s _ _ (hs.ne e (by intro xs z; cases z)) e⟩
theorem k_eqC {mg : Str → Option Value} (T : Txt Z mg) {H : Hp} {Q : VK} {E : XK} {x y : V} {t r b : Int} (hx : RootAt Z.c_Root H x t r b) (hy : Th Z.c_Root H y) (q : Q (.bl (eqRt H t r b y)) H) : rOwnC Z.K Z.c_Root (sp_Root_eq Z) E x y H Q := by
  obtain ⟨a, dx, rfl, e⟩ := hx
  obtain ⟨ty, hty, _, _, _, nf⟩ := hy.ty T.ki
  exact ⟨a, dx, _, ty, rfl, e, hty, nf, _, _, t, r, b, rfl, ⟨a, dx, rfl, e⟩, hy, q⟩
theorem k_eqR {mg : Str → Option Value} (T : Txt Z mg) {H : Hp} {Q : VK} {E : XK} {x y : V} {t r b : Int} (hy : RootAt Z.c_Root H y t r b) (hx : (∃ i, x = .int i) ∨ ∃ b, x = .bl b) (q : Q (.bl (eqRt H t r b x)) H) : rOwnR Z.K Z.c_Root (sp_Root_eq Z) E x y H Q := by
  obtain ⟨a, dx, rfl, e⟩ := hy
  rcases hx with ⟨i, rfl⟩ | ⟨c, rfl⟩
  · exact ⟨a, dx, _, rfl, e, .inl ⟨⟨i, rfl⟩, T.ki.s1⟩, _, _, t, r, b, rfl, ⟨a, dx, rfl, e⟩, .int i, q⟩
  · exact ⟨a, dx, _, rfl, e, .inr ⟨⟨c, rfl⟩, T.ki.s2⟩, _, _, t, r, b, rfl, ⟨a, dx, rfl, e⟩, .bl c, q⟩
/-- a number, as a Root or as an int -/
def NumAt (c : Addr) (H : Hp) (v : V) (t r b : Int) : Prop := RootAt c H v t r b ∨ ∃ i, v = .int i ∧ t = i ∧ r = 0 ∧ b = 1
/-- its parts are not too great, the bottom is not 0 -/
structure Sm (t r b : Int) : Prop where
  ht : Bw 1000 t
  hr : Bw 1000 r
  hb : Bw 1000 b
  lw : Low t r b t r b
theorem Sm.hn {t r b : Int} (h : Sm t r b) : b ≠ 0 := by have := h.lw.pos; omega
theorem bw_div {n : Nat} {x y s : Int} (h : Bw n x) (e : x = y * s) (hs : s ≠ 0) : Bw n y := by
  unfold Bw at *
  rw [e, Int.natAbs_mul] at h
  exact Nat.lt_of_le_of_lt (Nat.le_mul_of_pos_right _ (Int.natAbs_pos.mpr hs)) h
theorem Sm.low {t r b : Int} (hb : b ≠ 0) (bt : Bw 1000 t) (br : Bw 1000 r) (bb : Bw 1000 b) : Sm (lowT t r b) (lowR t r b) (lowB t r b) := by
  have l := low_is (t := t) (r := r) hb
  obtain ⟨s, hs, e1, e2, e3⟩ := l.s
  exact ⟨bw_div bt e1 hs, bw_div br e2 hs, bw_div bb e3 hs, l.self⟩
theorem low_congr {t r b t' r' b' s : Int} (hb : b' ≠ 0) (hs : s ≠ 0) (e1 : t = t' * s) (e2 : r = r' * s) (e3 : b = b' * s) : lowT t r b = lowT t' r' b' ∧ lowR t r b = lowR t' r' b' ∧ lowB t r b = lowB t' r' b' := by
  have l := (low_is (t := t') (r := r') hb).scale hs
  rw [← e1, ← e2, ← e3] at l
  obtain ⟨a, b, c⟩ := l.eqs (by rw [e3]; exact Int.mul_ne_zero hb hs)
  exact ⟨a.symm, b.symm, c.symm⟩
/-- a Root that is (t + r * root) / b in lowest terms -/
def LowAt (c : Addr) (H : Hp) (v : V) (t r b : Int) : Prop := RootAt c H v (lowT t r b) (lowR t r b) (lowB t r b)
theorem LowAt.congr {c : Addr} {H : Hp} {v : V} {t r b t' r' b' s : Int} (h : LowAt c H v t r b) (hb : b' ≠ 0) (hs : s ≠ 0) (e1 : t = t' * s) (e2 : r = r' * s) (e3 : b = b' * s) : LowAt c H v t' r' b' := by
  obtain ⟨a, b, c⟩ := low_congr hb hs e1 e2 e3
  unfold LowAt at *
  rw [← a, ← b, ← c]
  exact h
theorem LowAt.congr' {c : Addr} {H : Hp} {v : V} {t r b t' r' b' s : Int} (h : LowAt c H v t r b) (hb : b ≠ 0) (hs : s ≠ 0) (e1 : t' = t * s) (e2 : r' = r * s) (e3 : b' = b * s) : LowAt c H v t' r' b' := by
  obtain ⟨a, b, c⟩ := low_congr hb hs e1 e2 e3
  unfold LowAt at *
  rw [a, b, c]
  exact h
def spBin (c : Addr) (F : F3) : Sp := fun vs H Q _ => ∃ v o t r b t' r' b', vs = [v, o] ∧ RootAt c H v t r b ∧ Sm t r b ∧ NumAt c H o t' r' b' ∧ Sm t' r' b' ∧
  ∀ v' H', Same H H' → LowAt c H' v' (F.t t r b t' r' b') (F.r t r b t' r' b') (F.b t r b t' r' b') → Q v' H'
def isN (c : Addr) (H : Hp) (v : V) : Bool := isC c H v || isI v
theorem RootAt.isC {c : Addr} {H : Hp} {v : V} {t r b : Int} (h : RootAt c H v t r b) : isC c H v = true := by
  obtain ⟨a, dx, rfl, e⟩ := h
  show (match H a with | some (.ins C _ _) => decide (C = c) | _ => false) = true
  rw [e]
  exact decide_eq_true rfl
theorem NumAt.th {c : Addr} {H : Hp} {v : V} {t r b : Int} (h : NumAt c H v t r b) : Th c H v := by
  rcases h with ⟨a, dx, rfl, e⟩ | ⟨i, rfl, _⟩
  · exact .root a dx t r b e
  · exact .int i
theorem NumAt.isN {c : Addr} {H : Hp} {v : V} {t r b : Int} (h : NumAt c H v t r b) : isN c H v = true := by
  unfold L2.My.isN
  rcases h with h | ⟨i, rfl, _⟩
  · rw [h.isC]; rfl
  · rfl
theorem NumAt.same {c : Addr} {H H' : Hp} {v : V} {t r b : Int} (h : NumAt c H v t r b) (s : Same H H') : NumAt c H' v t r b := h.imp (·.same s) id
theorem low1 (i : Int) : lowT i 0 1 = i ∧ lowR i 0 1 = 0 ∧ lowB i 0 1 = 1 := by
  have e : sg i 0 1 = 1 := by unfold sg; rw [if_neg (by decide)]; simp
  unfold lowT lowR lowB
  rw [e]
  exact ⟨Int.fdiv_one i, by decide, by decide⟩
abbrev s_is_number : Stmt := top 15
theorem sc_is_number : FnScope ["thing"] ["thing"] (defScope s_is_number) := ⟨rfl, rfl, rfl, by decide +kernel, rfl, by decide +kernel, by decide +kernel⟩

def sp_is_number (Z : Zs) : Sp := fun vs H Q E =>
  ∃ v, vs = [v] ∧ Th Z.c_Root H v ∧ Q (.bl (isN Z.c_Root H v)) H
theorem ok_is_number (T : Txt Z mg) (h_is_integral : Has P w Z.K mg base "is_integral" 1 ["thing"] (sp_is_integral Z)) (D : AtF Z.K mg "is_number" "is_number" s_is_number ["thing"]) : Has P w Z.K mg base "is_number" 2 ["thing"] (sp_is_number Z) := by
  refine D.ok sc_is_number (fun vs H Q E h => ?_) (fun cdv A outer s H vs Q E hr h => ?_)
  · obtain ⟨v, rfl, _⟩ := h
    rfl
  · refine ⟨_, (pss_one (ps_ret (pe_or (pe_callB call_isi rfl T.n_isinstance (by decide +kernel) (pa_cons (pv 0) (pa_cons (pe_glob (v := .ref Z.c_Root) rfl T.g_Root rfl) pa_nil))) (pe_one (pe_h (E := ED E) h_is_integral hr (paW (takes_of rfl rfl rfl rfl)) (pa_cons (pv 0) pa_nil)))))), ?_⟩
    try simp only [cxOf]
    obtain ⟨v, rfl, hv, q⟩ := h
    obtain ⟨ty, hty, _, _, k3, _⟩ := hv.ty T.ki
    unfold isN at q
    walk_at "W"
    refine w_isiC hty k3 ?_
    walk_at "W"
    cases e : isC Z.c_Root H v
    · rw [e] at q
      walk_at "W"
      refine ⟨v, rfl, hv, ?_⟩
      walk_at "W"
      exact q
    · rw [e] at q
      walk_at "W"
      exact q
abbrev s_as_root : Stmt := top 16
theorem sc_as_root : FnScope ["number"] ["number"] (defScope s_as_root) := ⟨rfl, rfl, rfl, by decide +kernel, rfl, by decide +kernel, by decide +kernel⟩

def sp_as_root (Z : Zs) : Sp := fun vs H Q E =>
  ∃ v t r b, vs = [v] ∧ NumAt Z.c_Root H v t r b ∧ ∀ v' H', Same H H' → RootAt Z.c_Root H' v' t r b → Q v' H'
theorem ok_as_root (T : Txt Z mg) (h_Root : HasC P w Z.K mg base "Root" Z.c_Root 3 ["self", "top", "root", "bottom"] (sp_Root_init Z)) (D : AtF Z.K mg "as_root" "as_root" s_as_root ["number"]) : Has P w Z.K mg base "as_root" 5 ["number"] (sp_as_root Z) := by
  refine D.ok sc_as_root (fun vs H Q E h => ?_) (fun cdv A outer s H vs Q E hr h => ?_)
  · obtain ⟨v, t, r, b, rfl, _⟩ := h
    rfl
  · refine ⟨_, (pss_cons (ps_if (pt_val (pe_callB call_isi rfl T.n_isinstance (by decide +kernel) (pa_cons (pv 0) (pa_cons (pe_glob (v := .ref Z.c_Root) rfl T.g_Root rfl) pa_nil)))) (pss_one (ps_ret (pv 0))) pss_nil)
      (pss_one (ps_ret (pe_hc (E := ED E) h_Root hr (paW (takes_of rfl rfl rfl rfl)) (pa_cons (pv 0) (pa_cons pe_int (pa_cons pe_int pa_nil))))))), ?_⟩
    try simp only [cxOf]
    obtain ⟨v, t, r, b, rfl, hv, q⟩ := h
    obtain ⟨ty, hty, _, _, k3, _⟩ := hv.th.ty T.ki
    walk_at "W"
    refine w_isiC hty k3 ?_
    rcases hv with hv | ⟨i, rfl, rfl, rfl, rfl⟩
    · rw [hv.isC]
      walk_at "W"
      exact q _ _ (Same.refl _) hv
    · have e : isC Z.c_Root H (.int t) = false := rfl
      rw [e]
      walk_at "W"
      refine k_mkRootI (by decide) (Bw.one.bd (by decide)) fun v' H' s hv' => ?_
      obtain ⟨e1, e2, e3⟩ := low1 t
      rw [e1, e2, e3] at hv'
      exact q _ _ s hv'
/-- the sign of t + r * the square root of 2 -/
def sgn (t r : Int) : Int :=
  if t = 0 ∧ r = 0 then 0 else if 0 ≤ t ∧ 0 ≤ r then 1 else if t ≤ 0 ∧ r ≤ 0 then -1 else if t * t > 2 * r * r then (if 0 < t then 1 else -1) else if 0 < r then 1 else -1
abbrev s_surd_sign : Stmt := top 17
theorem sc_surd_sign : FnScope ["top", "root"] ["top", "root"] (defScope s_surd_sign) := ⟨rfl, rfl, rfl, by decide +kernel, rfl, by decide +kernel, by decide +kernel⟩

def sp_surd_sign (Z : Zs) : Sp := fun vs H Q E =>
  ∃ t r : Int, vs = [.int t, .int r] ∧ Bw 3000 t ∧ Bw 3000 r ∧ Q (.int (sgn t r)) H
theorem ok_surd_sign (T : Txt Z mg)  (D : AtF Z.K mg "surd_sign" "surd_sign" s_surd_sign ["top", "root"]) : Has P w Z.K mg base "surd_sign" 1 ["top", "root"] (sp_surd_sign Z) := by
  refine D.ok sc_surd_sign (fun vs H Q E h => ?_) (fun cdv A outer s H vs Q E hr h => ?_)
  · obtain ⟨t, r, rfl, _⟩ := h
    rfl
  · refine ⟨_, (C8.pss_cut (ps_if (PW.pt (pw_and (pt_cmpR op_ge (pv 0) pe_int (nomark _)) (pw_and1 (pt_cmpR op_ge (pv 1) pe_int (nomark _))))) (pss_one (ps_ret (pe_ifExp (PW.pt (pw_or (pt_cmpR op_gt (pv 0) pe_int (nomark _)) (pw_or1 (pt_cmpR op_gt (pv 1) pe_int (nomark _))))) pe_int pe_int))) pss_nil)
      (C8.pss_cut (ps_if (PW.pt (pw_and (pt_cmpR op_le (pv 0) pe_int (nomark _)) (pw_and1 (pt_cmpR op_le (pv 1) pe_int (nomark _))))) (pss_one (ps_ret (pe_un un_neg pe_int))) pss_nil)
      (pss_cons (ps_if (pt_cmpR op_gt (pe_op op_mulS (pv 0) (pv 0)) (pe_op op_mulS (pe_op op_mulS pe_int (pv 1)) (pv 1)) (nomark _)) (pss_one (ps_ret (pe_ifExp (pt_cmpR op_gt (pv 0) pe_int (nomark _)) pe_int (pe_un un_neg pe_int)))) pss_nil)
      (pss_one (ps_ret (pe_ifExp (pt_cmpR op_gt (pv 1) pe_int (nomark _)) pe_int (pe_un un_neg pe_int))))))), ?_⟩
    try simp only [cxOf]
    obtain ⟨t, r, rfl, bt, br, q⟩ := h
    have L : ∀ {k : Int}, sgn t r = k → Q (.int k) H := fun e => e ▸ q
    have big : ¬ (t = 0 ∧ r = 0) → ¬ (0 ≤ t ∧ 0 ≤ r) → ¬ (t ≤ 0 ∧ r ≤ 0) → ∀ {k : Int}, (if t * t > 2 * r * r then (if 0 < t then 1 else -1) else if 0 < r then 1 else -1) = k → Q (.int k) H := fun n1 n2 n3 k e => L (by unfold sgn; rw [if_neg n1, if_neg n2, if_neg n3]; exact e)
    walk_at "W"
    refine w_cut (fun σ' H' => (σ' = [some (.int t), some (.int r)] ∧ H' = H) ∧ ¬ (0 ≤ t ∧ 0 ≤ r)) ?_ ?_
    · walk_at "W"
      refine w_ite (fun h1 => ?_) (fun h1 => ?_)
      · walk_at "W"
        refine w_ite (fun h2 => ?_) (fun h2 => ?_)
        · walk_at "W"
          refine w_ite (fun h3 => ?_) (fun h3 => ?_)
          · walk_at "W"
            exact L (by unfold sgn; rw [if_neg (by omega), if_pos (by omega)])
          · walk_at "W"
            refine w_ite (fun h4 => ?_) (fun h4 => ?_)
            · walk_at "W"
              exact L (by unfold sgn; rw [if_neg (by omega), if_pos (by omega)])
            · walk_at "W"
              exact L (by unfold sgn; rw [if_pos (by omega)])
        · walk_at "W"
          exact ⟨⟨rfl, rfl⟩, by omega⟩
      · walk_at "W"
        exact ⟨⟨rfl, rfl⟩, by omega⟩
    rintro σ' H' ⟨⟨rfl, rfl⟩, n2⟩
    walk_at "W"
    refine w_cut (fun σ' H1 => (σ' = [some (.int t), some (.int r)] ∧ H1 = H') ∧ ¬ (t ≤ 0 ∧ r ≤ 0)) ?_ ?_
    · walk_at "W"
      refine w_ite (fun h1 => ?_) (fun h1 => ?_)
      · walk_at "W"
        refine w_ite (fun h2 => ?_) (fun h2 => ?_)
        · walk_at "W"
          exact L (by unfold sgn; rw [if_neg (by omega), if_neg (by omega), if_pos (by omega)])
        · walk_at "W"
          exact ⟨⟨rfl, rfl⟩, by omega⟩
      · walk_at "W"
        exact ⟨⟨rfl, rfl⟩, by omega⟩
    rintro σ' H1 ⟨⟨rfl, rfl⟩, n3⟩
    walk_at "W"
    walk_at "mul"
    walk_at "W"
    walk_at "mul"
    walk_at "W"
    have go : ∀ {k : Int}, (if t * t > 2 * r * r then (if 0 < t then 1 else -1) else if 0 < r then 1 else -1) = k → Q (.int k) H1 := fun e => big (by omega) n2 n3 e
    refine w_ite (fun h1 => ?_) (fun h1 => ?_)
    · walk_at "W"
      refine w_ite (fun h2 => ?_) (fun h2 => ?_)
      · walk_at "W"
        exact go (by rw [if_pos h1, if_pos h2])
      · walk_at "W"
        exact go (by rw [if_pos h1, if_neg h2])
    · walk_at "W"
      refine w_ite (fun h2 => ?_) (fun h2 => ?_)
      · walk_at "W"
        exact go (by rw [if_neg h1, if_pos h2])
      · walk_at "W"
        exact go (by rw [if_neg h1, if_neg h2])
abbrev s_Root_add : Stmt := inClass (top 19) 2
theorem sc_Root_add : FnScope ["self", "other", "more", "top", "root"] ["self", "other"] (defScope s_Root_add) := ⟨rfl, rfl, rfl, by decide +kernel, rfl, by decide +kernel, by decide +kernel⟩

def sp_Root_add (Z : Zs) : Sp := fun vs H Q E =>
  spBin Z.c_Root plus vs H Q E
theorem ok_Root_add (T : Txt Z mg) (h_Root : HasC P w Z.K mg base "Root" Z.c_Root 3 ["self", "top", "root", "bottom"] (sp_Root_init Z)) (h_as_root : Has P w Z.K mg base "as_root" 5 ["number"] (sp_as_root Z)) (h_is_number : Has P w Z.K mg base "is_number" 2 ["thing"] (sp_is_number Z)) (D : AtM Z.K Z.c_Root "__add__" "Root.__add__" s_Root_add ["self", "other"]) : HasM P w Z.K mg base Z.c_Root "__add__" 6 ["self", "other"] (sp_Root_add Z) := by
  refine D.ok sc_Root_add (fun vs H Q E h => ?_) (fun cdv A outer s H vs Q E hr h => ?_)
  · obtain ⟨v, o, t, r, b, t', r', b', rfl, _⟩ := h
    rfl
  · refine ⟨_, (pss_cons (ps_if (pt_not (pt_val (pe_h (E := ED E) h_is_number hr (paW (takes_of rfl rfl rfl rfl)) (pa_cons (pv 1) pa_nil)))) (pss_one ps_never) pss_nil)
      (pss_cons (ps_set (i := 2) sc_Root_add.nd rfl (Or.inl rfl) (pe_h (E := ED E) h_as_root hr (paW (takes_of rfl rfl rfl rfl)) (pa_cons (pv 1) pa_nil)))
      (pss_cons (ps_set (i := 3) sc_Root_add.nd rfl (Or.inl rfl) (pe_op op_add (pe_op op_mulS (pe_fld (pv 0) rfl) (pe_fld (pv 2) rfl)) (pe_op op_mulS (pe_fld (pv 2) rfl) (pe_fld (pv 0) rfl))))
      (pss_cons (ps_set (i := 4) sc_Root_add.nd rfl (Or.inl rfl) (pe_op op_add (pe_op op_mulS (pe_fld (pv 0) rfl) (pe_fld (pv 2) rfl)) (pe_op op_mulS (pe_fld (pv 2) rfl) (pe_fld (pv 0) rfl))))
      (pss_one (ps_ret (pe_hc (E := ED E) h_Root hr (paW (takes_of rfl rfl rfl rfl)) (pa_cons (pv 3) (pa_cons (pv 4) (pa_cons (pe_op op_mulS (pe_fld (pv 0) rfl) (pe_fld (pv 2) rfl)) pa_nil)))))))))), ?_⟩
    try simp only [cxOf]
    obtain ⟨v, o, t, r, b, t', r', b', rfl, ⟨a, dx, rfl, ha⟩, ⟨bt, br, bb, lw⟩, ho, ⟨bt', br', bb', lw'⟩, q⟩ := h
    have p := lw.pos
    have p' := lw'.pos
    walk_at "W"
    refine ⟨o, rfl, ho.th, ?_⟩
    rw [ho.isN]
    walk_at "W"
    refine ⟨o, t', r', b', rfl, ho, ?_⟩
    rintro m H1 s1 ⟨a', dx', rfl, ha'⟩
    have ha1 := s1 _ _ ha
    repeat (first | walk_at "s" | walk_at "mul" | refine w_fld ha1 T.c_Root T.nf_top (rf_top _ _ _) ?_ | refine w_fld ha1 T.c_Root T.nf_root (rf_root _ _ _) ?_ | refine w_fld ha1 T.c_Root T.nf_bottom (rf_bottom _ _ _) ?_ | refine w_fld ha' T.c_Root T.nf_top (rf_top _ _ _) ?_ | refine w_fld ha' T.c_Root T.nf_root (rf_root _ _ _) ?_ | refine w_fld ha' T.c_Root T.nf_bottom (rf_bottom _ _ _) ?_)
    exact k_mkRootI (Int.mul_ne_zero (by omega) (by omega)) ((bb.mul bb').bd (by decide)) fun v' H' s' hv => q v' H' (s1.trans s') hv
abbrev s_Root_sub : Stmt := inClass (top 19) 4
theorem sc_Root_sub : FnScope ["self", "other", "less", "top", "root"] ["self", "other"] (defScope s_Root_sub) := ⟨rfl, rfl, rfl, by decide +kernel, rfl, by decide +kernel, by decide +kernel⟩

def sp_Root_sub (Z : Zs) : Sp := fun vs H Q E =>
  spBin Z.c_Root minus vs H Q E
theorem ok_Root_sub (T : Txt Z mg) (h_Root : HasC P w Z.K mg base "Root" Z.c_Root 3 ["self", "top", "root", "bottom"] (sp_Root_init Z)) (h_as_root : Has P w Z.K mg base "as_root" 5 ["number"] (sp_as_root Z)) (h_is_number : Has P w Z.K mg base "is_number" 2 ["thing"] (sp_is_number Z)) (D : AtM Z.K Z.c_Root "__sub__" "Root.__sub__" s_Root_sub ["self", "other"]) : HasM P w Z.K mg base Z.c_Root "__sub__" 6 ["self", "other"] (sp_Root_sub Z) := by
  refine D.ok sc_Root_sub (fun vs H Q E h => ?_) (fun cdv A outer s H vs Q E hr h => ?_)
  · obtain ⟨v, o, t, r, b, t', r', b', rfl, _⟩ := h
    rfl
  · refine ⟨_, (pss_cons (ps_if (pt_not (pt_val (pe_h (E := ED E) h_is_number hr (paW (takes_of rfl rfl rfl rfl)) (pa_cons (pv 1) pa_nil)))) (pss_one ps_never) pss_nil)
      (pss_cons (ps_set (i := 2) sc_Root_sub.nd rfl (Or.inl rfl) (pe_h (E := ED E) h_as_root hr (paW (takes_of rfl rfl rfl rfl)) (pa_cons (pv 1) pa_nil)))
      (pss_cons (ps_set (i := 3) sc_Root_sub.nd rfl (Or.inl rfl) (pe_op op_sub (pe_op op_mulS (pe_fld (pv 0) rfl) (pe_fld (pv 2) rfl)) (pe_op op_mulS (pe_fld (pv 2) rfl) (pe_fld (pv 0) rfl))))
      (pss_cons (ps_set (i := 4) sc_Root_sub.nd rfl (Or.inl rfl) (pe_op op_sub (pe_op op_mulS (pe_fld (pv 0) rfl) (pe_fld (pv 2) rfl)) (pe_op op_mulS (pe_fld (pv 2) rfl) (pe_fld (pv 0) rfl))))
      (pss_one (ps_ret (pe_hc (E := ED E) h_Root hr (paW (takes_of rfl rfl rfl rfl)) (pa_cons (pv 3) (pa_cons (pv 4) (pa_cons (pe_op op_mulS (pe_fld (pv 0) rfl) (pe_fld (pv 2) rfl)) pa_nil)))))))))), ?_⟩
    try simp only [cxOf]
    obtain ⟨v, o, t, r, b, t', r', b', rfl, ⟨a, dx, rfl, ha⟩, ⟨bt, br, bb, lw⟩, ho, ⟨bt', br', bb', lw'⟩, q⟩ := h
    have p := lw.pos
    have p' := lw'.pos
    walk_at "W"
    refine ⟨o, rfl, ho.th, ?_⟩
    rw [ho.isN]
    walk_at "W"
    refine ⟨o, t', r', b', rfl, ho, ?_⟩
    rintro m H1 s1 ⟨a', dx', rfl, ha'⟩
    have ha1 := s1 _ _ ha
    repeat (first | walk_at "s" | walk_at "mul" | refine w_fld ha1 T.c_Root T.nf_top (rf_top _ _ _) ?_ | refine w_fld ha1 T.c_Root T.nf_root (rf_root _ _ _) ?_ | refine w_fld ha1 T.c_Root T.nf_bottom (rf_bottom _ _ _) ?_ | refine w_fld ha' T.c_Root T.nf_top (rf_top _ _ _) ?_ | refine w_fld ha' T.c_Root T.nf_root (rf_root _ _ _) ?_ | refine w_fld ha' T.c_Root T.nf_bottom (rf_bottom _ _ _) ?_)
    exact k_mkRootI (Int.mul_ne_zero (by omega) (by omega)) ((bb.mul bb').bd (by decide)) fun v' H' s' hv => q v' H' (s1.trans s') hv
abbrev s_Root_mul : Stmt := inClass (top 19) 6
theorem sc_Root_mul : FnScope ["self", "other", "by", "top", "root"] ["self", "other"] (defScope s_Root_mul) := ⟨rfl, rfl, rfl, by decide +kernel, rfl, by decide +kernel, by decide +kernel⟩

def sp_Root_mul (Z : Zs) : Sp := fun vs H Q E =>
  spBin Z.c_Root times vs H Q E
theorem ok_Root_mul (T : Txt Z mg) (h_Root : HasC P w Z.K mg base "Root" Z.c_Root 3 ["self", "top", "root", "bottom"] (sp_Root_init Z)) (h_as_root : Has P w Z.K mg base "as_root" 5 ["number"] (sp_as_root Z)) (h_is_number : Has P w Z.K mg base "is_number" 2 ["thing"] (sp_is_number Z)) (D : AtM Z.K Z.c_Root "__mul__" "Root.__mul__" s_Root_mul ["self", "other"]) : HasM P w Z.K mg base Z.c_Root "__mul__" 6 ["self", "other"] (sp_Root_mul Z) := by
  refine D.ok sc_Root_mul (fun vs H Q E h => ?_) (fun cdv A outer s H vs Q E hr h => ?_)
  · obtain ⟨v, o, t, r, b, t', r', b', rfl, _⟩ := h
    rfl
  · refine ⟨_, (pss_cons (ps_if (pt_not (pt_val (pe_h (E := ED E) h_is_number hr (paW (takes_of rfl rfl rfl rfl)) (pa_cons (pv 1) pa_nil)))) (pss_one ps_never) pss_nil)
      (pss_cons (ps_set (i := 2) sc_Root_mul.nd rfl (Or.inl rfl) (pe_h (E := ED E) h_as_root hr (paW (takes_of rfl rfl rfl rfl)) (pa_cons (pv 1) pa_nil)))
      (pss_cons (ps_set (i := 3) sc_Root_mul.nd rfl (Or.inl rfl) (pe_op op_add (pe_op op_mulS (pe_fld (pv 0) rfl) (pe_fld (pv 2) rfl)) (pe_op op_mulS (pe_op op_mulS pe_int (pe_fld (pv 0) rfl)) (pe_fld (pv 2) rfl))))
      (pss_cons (ps_set (i := 4) sc_Root_mul.nd rfl (Or.inl rfl) (pe_op op_add (pe_op op_mulS (pe_fld (pv 0) rfl) (pe_fld (pv 2) rfl)) (pe_op op_mulS (pe_fld (pv 0) rfl) (pe_fld (pv 2) rfl))))
      (pss_one (ps_ret (pe_hc (E := ED E) h_Root hr (paW (takes_of rfl rfl rfl rfl)) (pa_cons (pv 3) (pa_cons (pv 4) (pa_cons (pe_op op_mulS (pe_fld (pv 0) rfl) (pe_fld (pv 2) rfl)) pa_nil)))))))))), ?_⟩
    try simp only [cxOf]
    obtain ⟨v, o, t, r, b, t', r', b', rfl, ⟨a, dx, rfl, ha⟩, ⟨bt, br, bb, lw⟩, ho, ⟨bt', br', bb', lw'⟩, q⟩ := h
    have p := lw.pos
    have p' := lw'.pos
    walk_at "W"
    refine ⟨o, rfl, ho.th, ?_⟩
    rw [ho.isN]
    walk_at "W"
    refine ⟨o, t', r', b', rfl, ho, ?_⟩
    rintro m H1 s1 ⟨a', dx', rfl, ha'⟩
    have ha1 := s1 _ _ ha
    repeat (first | walk_at "s" | walk_at "mul" | refine w_fld ha1 T.c_Root T.nf_top (rf_top _ _ _) ?_ | refine w_fld ha1 T.c_Root T.nf_root (rf_root _ _ _) ?_ | refine w_fld ha1 T.c_Root T.nf_bottom (rf_bottom _ _ _) ?_ | refine w_fld ha' T.c_Root T.nf_top (rf_top _ _ _) ?_ | refine w_fld ha' T.c_Root T.nf_root (rf_root _ _ _) ?_ | refine w_fld ha' T.c_Root T.nf_bottom (rf_bottom _ _ _) ?_)
    exact k_mkRootI (Int.mul_ne_zero (by omega) (by omega)) ((bb.mul bb').bd (by decide)) fun v' H' s' hv => q v' H' (s1.trans s') hv
theorem k_ownL {x y : V} {t r b t' r' b' : Int} {H : Hp} {Q : VK} {sp : Sp} {E : XK} {c : Addr} (hx : RootAt c H x t r b) (hy : NumAt c H y t' r' b') (h : sp [x, y] H Q E) : rOwnL c sp E x y H Q := by
  obtain ⟨a, dx, rfl, ha⟩ := hx
  refine ⟨a, dx, _, rfl, ha, ?_, h⟩
  rcases hy with ⟨a', dx', rfl, ha'⟩ | ⟨i, rfl, _⟩
  · exact .inr ⟨a', dx', _, rfl, ha'⟩
  · exact .inl ⟨i, rfl⟩
abbrev s_Root_radd : Stmt := inClass (top 19) 3
theorem sc_Root_radd : FnScope ["self", "other"] ["self", "other"] (defScope s_Root_radd) := ⟨rfl, rfl, rfl, by decide +kernel, rfl, by decide +kernel, by decide +kernel⟩

def sp_Root_radd (Z : Zs) : Sp := fun vs H Q E =>
  spBin Z.c_Root (back plus) vs H Q E
theorem ok_Root_radd (T : Txt Z mg) (h_Root_add : HasM P w Z.K mg base Z.c_Root "__add__" 6 ["self", "other"] (sp_Root_add Z)) (D : AtM Z.K Z.c_Root "__radd__" "Root.__radd__" s_Root_radd ["self", "other"]) : HasM P w Z.K mg base Z.c_Root "__radd__" 7 ["self", "other"] (sp_Root_radd Z) := by
  refine D.ok sc_Root_radd (fun vs H Q E h => ?_) (fun cdv A outer s H vs Q E hr h => ?_)
  · obtain ⟨v, o, t, r, b, t', r', b', rfl, _⟩ := h
    rfl
  · refine ⟨_, (pss_one (ps_ret (pe_op (op_addL T.ow T.ra h_Root_add hr passL) (pv 0) (pv 1)))), ?_⟩
    try simp only [cxOf]
    obtain ⟨v, o, t, r, b, t', r', b', rfl, hv, sm, ho, sm', q⟩ := h
    walk_at "W"
    refine k_ownL hv ho ⟨_, _, t, r, b, t', r', b', rfl, hv, sm, ho, sm', fun v' H' s' hv' => q v' H' s' ?_⟩
    exact hv'.congr (s := 1) (Int.mul_ne_zero sm'.hn sm.hn) (by decide) (by show t * b' + t' * b = (t' * b + t * b') * 1; grind) (by show r * b' + r' * b = (r' * b + r * b') * 1; grind) (by show b * b' = (b' * b) * 1; grind)
abbrev s_Root_rmul : Stmt := inClass (top 19) 7
theorem sc_Root_rmul : FnScope ["self", "other"] ["self", "other"] (defScope s_Root_rmul) := ⟨rfl, rfl, rfl, by decide +kernel, rfl, by decide +kernel, by decide +kernel⟩

def sp_Root_rmul (Z : Zs) : Sp := fun vs H Q E =>
  spBin Z.c_Root (back times) vs H Q E
theorem ok_Root_rmul (T : Txt Z mg) (h_Root_mul : HasM P w Z.K mg base Z.c_Root "__mul__" 6 ["self", "other"] (sp_Root_mul Z)) (D : AtM Z.K Z.c_Root "__rmul__" "Root.__rmul__" s_Root_rmul ["self", "other"]) : HasM P w Z.K mg base Z.c_Root "__rmul__" 7 ["self", "other"] (sp_Root_rmul Z) := by
  refine D.ok sc_Root_rmul (fun vs H Q E h => ?_) (fun cdv A outer s H vs Q E hr h => ?_)
  · obtain ⟨v, o, t, r, b, t', r', b', rfl, _⟩ := h
    rfl
  · refine ⟨_, (pss_one (ps_ret (pe_op (op_mulL T.ow T.rm h_Root_mul hr passL) (pv 0) (pv 1)))), ?_⟩
    try simp only [cxOf]
    obtain ⟨v, o, t, r, b, t', r', b', rfl, hv, sm, ho, sm', q⟩ := h
    walk_at "W"
    refine k_ownL hv ho ⟨_, _, t, r, b, t', r', b', rfl, hv, sm, ho, sm', fun v' H' s' hv' => q v' H' s' ?_⟩
    exact hv'.congr (s := 1) (Int.mul_ne_zero sm'.hn sm.hn) (by decide) (by show t * t' + 2 * r * r' = (t' * t + 2 * r' * r) * 1; grind) (by show t * r' + r * t' = (t' * r + r' * t) * 1; grind) (by show b * b' = (b' * b) * 1; grind)
abbrev s_Root_rsub : Stmt := inClass (top 19) 5
theorem sc_Root_rsub : FnScope ["self", "other"] ["self", "other"] (defScope s_Root_rsub) := ⟨rfl, rfl, rfl, by decide +kernel, rfl, by decide +kernel, by decide +kernel⟩

def sp_Root_rsub (Z : Zs) : Sp := fun vs H Q E =>
  spBin Z.c_Root (back minus) vs H Q E
theorem ok_Root_rsub (T : Txt Z mg) (h_Root_add : HasM P w Z.K mg base Z.c_Root "__add__" 6 ["self", "other"] (sp_Root_add Z)) (h_Root_neg : HasM P w Z.K mg base Z.c_Root "__neg__" 5 ["self"] (sp_Root_neg Z)) (D : AtM Z.K Z.c_Root "__rsub__" "Root.__rsub__" s_Root_rsub ["self", "other"]) : HasM P w Z.K mg base Z.c_Root "__rsub__" 7 ["self", "other"] (sp_Root_rsub Z) := by
  refine D.ok sc_Root_rsub (fun vs H Q E h => ?_) (fun cdv A outer s H vs Q E hr h => ?_)
  · obtain ⟨v, o, t, r, b, t', r', b', rfl, _⟩ := h
    rfl
  · refine ⟨_, (pss_one (ps_ret (pe_op (op_addL T.ow T.ra h_Root_add hr passL) (pe_un (un_own h_Root_neg hr passL) (pv 0)) (pv 1)))), ?_⟩
    try simp only [cxOf]
    obtain ⟨v, o, t, r, b, t', r', b', rfl, hv, sm, ho, sm', q⟩ := h
    walk_at "W"
    obtain ⟨a, dx, rfl, ha⟩ := hv
    refine ⟨a, dx, _, rfl, ha, _, t, r, b, rfl, ⟨a, dx, rfl, ha⟩, sm.hn, sm.hb.bd (by decide), fun u H1 s1 hu => ?_⟩
    walk_at "W"
    have ho1 := ho.same s1
    obtain ⟨bt, br, bb, lw⟩ := sm
    have sn := Sm.low (by have := lw.pos; omega) bt.neg br.neg bb
    refine k_ownL hu ho1 ⟨_, _, _, _, _, t', r', b', rfl, hu, sn, ho1, sm', fun v' H' s' hv' => q v' H' (s1.trans s') ?_⟩
    obtain ⟨s, hs, e1, e2, e3⟩ := (low_is (t := -t) (r := -r) (by have := lw.pos; omega : b ≠ 0)).s
    refine LowAt.congr' hv' (Int.mul_ne_zero sn.hn sm'.hn) hs ?_ ?_ ?_
    · show t' * b - t * b' = (lowT (-t) (-r) b * b' + t' * lowB (-t) (-r) b) * s
      grind
    · show r' * b - r * b' = (lowR (-t) (-r) b * b' + r' * lowB (-t) (-r) b) * s
      grind
    · show b' * b = (lowB (-t) (-r) b * b') * s
      grind
theorem nat_sq2 : ∀ m n : Nat, m * m = 2 * (n * n) → n = 0 := by
  intro m
  induction m using Nat.strongRecOn with
  | ind m ih =>
    intro n h
    rcases Nat.eq_zero_or_pos n with h0 | h0
    · exact h0
    have hn : n < m := by
      rcases Nat.lt_or_ge n m with q | q
      · exact q
      · have := Nat.mul_le_mul q q
        have : 0 < n * n := Nat.mul_pos h0 h0
        omega
    have he : m % 2 = 0 := by
      rcases Nat.mod_two_eq_zero_or_one m with q | q
      · exact q
      · have : m * m % 2 = 1 := by rw [Nat.mul_mod, q]
        omega
    obtain ⟨k, rfl⟩ : ∃ k, m = 2 * k := ⟨m / 2, by omega⟩
    have h2 : n * n = 2 * (k * k) := by
      have : 2 * k * (2 * k) = 4 * (k * k) := by grind
      omega
    have hk := ih n hn k h2
    subst hk
    simp at h2
    rcases Nat.mul_eq_zero.mp h2 with q | q <;> exact q
/-- the square root of 2 is no fraction -/
theorem sq2 {t r : Int} (h : t * t - 2 * r * r = 0) : t = 0 ∧ r = 0 := by
  have e : t.natAbs * t.natAbs = 2 * (r.natAbs * r.natAbs) := by
    have h1 : ((t.natAbs * t.natAbs : Nat) : Int) = t * t := Int.natAbs_mul_self
    have h2 : ((r.natAbs * r.natAbs : Nat) : Int) = r * r := Int.natAbs_mul_self
    have h3 : 2 * r * r = 2 * (r * r) := Int.mul_assoc ..
    omega
  have hr := nat_sq2 _ _ e
  rw [hr] at e
  simp at e
  have h0 : t.natAbs = 0 := by rcases Nat.mul_eq_zero.mp e with q | q <;> exact q
  exact ⟨by omega, by omega⟩
theorem sm_zero {t r b : Int} (h : Sm t r b) : (r = 0 ∧ b = 1 ∧ t = 0) ↔ (t = 0 ∧ r = 0) := by
  constructor
  · rintro ⟨a, _, c⟩; exact ⟨c, a⟩
  · rintro ⟨rfl, rfl⟩
    have o := h.lw.one
    have p := h.lw.pos
    simp at o
    exact ⟨rfl, by omega, rfl⟩
def quot : F3 := ⟨fun t r _ t' r' b' => (t * t' - 2 * r * r') * b', fun t r _ t' r' b' => (r * t' - t * r') * b', fun _ _ b t' r' _ => b * (t' * t' - 2 * r' * r')⟩
/-- an own error with what was bad -/
def Er (Z : Zs) (o : V) (H : Hp) (E : XK) : Prop := ∀ d H', H d = none → Same H H' → H' d = some (.xd [("value", o)]) → E (.ref Z.c_BadNumber) (some d) H'
abbrev s_Root_less : Stmt := inClass (top 19) 10
theorem sc_Root_less : FnScope ["self", "number", "more", "top", "root"] ["self", "number"] (defScope s_Root_less) := ⟨rfl, rfl, rfl, by decide +kernel, rfl, by decide +kernel, by decide +kernel⟩

def sp_Root_less (Z : Zs) : Sp := fun vs H Q E =>
  ∃ v o t r b, vs = [v, o] ∧ RootAt Z.c_Root H v t r b ∧ Sm t r b ∧ Th Z.c_Root H o ∧
    (isN Z.c_Root H o = false ∧ Er Z o H E ∨ ∃ t' r' b', NumAt Z.c_Root H o t' r' b' ∧ Sm t' r' b' ∧
      ∀ H', Same H H' → Q (.bl (decide (sgn (minus.t t r b t' r' b') (minus.r t r b t' r' b') < 0))) H')
theorem ok_Root_less (T : Txt Z mg) (h_surd_sign : Has P w Z.K mg base "surd_sign" 1 ["top", "root"] (sp_surd_sign Z)) (h_as_root : Has P w Z.K mg base "as_root" 5 ["number"] (sp_as_root Z)) (h_is_number : Has P w Z.K mg base "is_number" 2 ["thing"] (sp_is_number Z)) (h_BadNumber : HasX P w Z.K mg base "BadNumber" Z.c_BadNumber 1 ["self", "value"] (sp_BadNumber_init Z)) (D : AtM Z.K Z.c_Root "less" "Root.less" s_Root_less ["self", "number"]) : HasM P w Z.K mg base Z.c_Root "less" 6 ["self", "number"] (sp_Root_less Z) := by
  refine D.ok sc_Root_less (fun vs H Q E h => ?_) (fun cdv A outer s H vs Q E hr h => ?_)
  · obtain ⟨v, o, t, r, b, rfl, _⟩ := h
    rfl
  · refine ⟨_, (pss_cons (ps_if (pt_not (pt_val (pe_h (E := ED E) h_is_number hr (paW (takes_of rfl rfl rfl rfl)) (pa_cons (pv 1) pa_nil)))) (pss_one (ps_raise rfl (takes_of rfl rfl rfl rfl) (pm_h T.x_BadNumber h_BadNumber hr (pa_cons (pv 1) pa_nil)))) pss_nil)
      (pss_cons (ps_set (i := 2) sc_Root_less.nd rfl (Or.inl rfl) (pe_h (E := ED E) h_as_root hr (paW (takes_of rfl rfl rfl rfl)) (pa_cons (pv 1) pa_nil)))
      (pss_cons (ps_set (i := 3) sc_Root_less.nd rfl (Or.inl rfl) (pe_op op_sub (pe_op op_mulS (pe_fld (pv 0) rfl) (pe_fld (pv 2) rfl)) (pe_op op_mulS (pe_fld (pv 2) rfl) (pe_fld (pv 0) rfl))))
      (pss_cons (ps_set (i := 4) sc_Root_less.nd rfl (Or.inl rfl) (pe_op op_sub (pe_op op_mulS (pe_fld (pv 0) rfl) (pe_fld (pv 2) rfl)) (pe_op op_mulS (pe_fld (pv 2) rfl) (pe_fld (pv 0) rfl))))
      (pss_one (ps_ret (pe_cmpR op_lt (pe_h (E := ED E) h_surd_sign hr (paW (takes_of rfl rfl rfl rfl)) (pa_cons (pv 3) (pa_cons (pv 4) pa_nil))) pe_int (nomark _)))))))), ?_⟩
    try simp only [cxOf]
    obtain ⟨v, o, t, r, b, rfl, ⟨a, dx, rfl, ha⟩, ⟨bt, br, bb, lw⟩, ho, hh⟩ := h
    walk_at "W"
    refine ⟨o, rfl, ho, ?_⟩
    rcases hh with ⟨e, er⟩ | ⟨t', r', b', hn, ⟨bt', br', bb', lw'⟩, q⟩
    · rw [e]
      walk_at "W"
      exact k_mkO fun d H2 hd s4 e4 => er d H2 hd s4 e4
    rw [hn.isN]
    walk_at "W"
    refine ⟨o, t', r', b', rfl, hn, ?_⟩
    rintro m H1 s1 ⟨a', dx', rfl, ha'⟩
    have ha1 := s1 _ _ ha
    repeat (first | walk_at "s" | walk_at "mul" | refine w_fld ha1 T.c_Root T.nf_top (rf_top _ _ _) ?_ | refine w_fld ha1 T.c_Root T.nf_root (rf_root _ _ _) ?_ | refine w_fld ha1 T.c_Root T.nf_bottom (rf_bottom _ _ _) ?_ | refine w_fld ha' T.c_Root T.nf_top (rf_top _ _ _) ?_ | refine w_fld ha' T.c_Root T.nf_root (rf_root _ _ _) ?_ | refine w_fld ha' T.c_Root T.nf_bottom (rf_bottom _ _ _) ?_)
    refine ⟨_, _, rfl, ((bt.mul bb').sub (bt'.mul bb)).mono (by decide), ((br.mul bb').sub (br'.mul bb)).mono (by decide), ?_⟩
    walk_at "W"
    exact q H1 s1
abbrev s__law_start : Stmt := top 45
theorem sc__law_start : FnScope ["script"] ["script"] (defScope s__law_start) := ⟨rfl, rfl, rfl, by decide +kernel, rfl, by decide +kernel, by decide +kernel⟩

def sp__law_start (Z : Zs) : Sp := fun vs H Q E =>
  ∃ (a : Addr) (ns : List Int), vs = [.ref a] ∧ SqL Z.K H a (ns.map V.int) ∧ ∀ p c H', H p = none → Same H H' → StA H' p c → Q (.ref p) H'
theorem ok__law_start (T : Txt Z mg)  (D : AtF Z.K mg "_law_start" "_law_start" s__law_start ["script"]) : Has P w Z.K mg base "_law_start" 1 ["script"] (sp__law_start Z) := by
  refine D.ok sc__law_start (fun vs H Q E h => ?_) (fun cdv A outer s H vs Q E hr h => ?_)
  · obtain ⟨a, ns, rfl, _⟩ := h
    rfl
  · refine ⟨_, (pss_one (ps_ret (pe_lst (pa_cons (pe_callTy cn_list rfl T.n_list (by decide +kernel) (pa_cons (pe_slice sl_list (pv 0) po_none (po_some pe_int)) pa_nil)) (pa_cons pe_int (pa_cons pe_int pa_nil)))))), ?_⟩
    try simp only [cxOf]
    obtain ⟨a, ns, rfl, hs, q⟩ := h
    walk_at "W"
    refine k_slL hs fun l H1 hl s1 e1 => ?_
    obtain ⟨ms, em⟩ := cut_ints ns none (some 63)
    rw [em] at e1
    walk_at "W"
    refine w_listL (SqL.of e1) fun l2 H2 hl2 s2 e2 => ?_
    walk_at "W"
    refine k_lst rfl fun p H3 hp s3 e3 => ?_
    exact q p l2 H3 ((s1.trans s2).free hp) (s1.trans (s2.trans s3)) ⟨ms, 0, 0, e3, s3 _ _ e2, fun z => (by rw [z] at e2; rw [hp] at e2; cases e2), by decide, by decide⟩
abbrev s__law_mixed : Stmt := top 46
theorem sc__law_mixed : FnScope ["cell", "count", "number"] ["cell", "count"] (defScope s__law_mixed) := ⟨rfl, rfl, rfl, by decide +kernel, rfl, by decide +kernel, by decide +kernel⟩

def sp__law_mixed (Z : Zs) : Sp := fun vs H Q E =>
  ∃ c n : Int, vs = [.int c, .int n] ∧ ∀ r : Int, 0 ≤ r → r < 2147483399 → Q (.int r) H
theorem ok__law_mixed (T : Txt Z mg)  (D : AtF Z.K mg "_law_mixed" "_law_mixed" s__law_mixed ["cell", "count"]) : Has P w Z.K mg base "_law_mixed" 1 ["cell", "count"] (sp__law_mixed Z) := by
  refine D.ok sc__law_mixed (fun vs H Q E h => ?_) (fun cdv A outer s H vs Q E hr h => ?_)
  · obtain ⟨c, n, rfl, _⟩ := h
    rfl
  · refine ⟨_, (pss_cons (ps_set (i := 2) sc__law_mixed.nd rfl (Or.inl rfl) (pe_op op_mod (pe_op op_mulS (pe_callTy cn_int rfl T.n_int (by decide +kernel) (pa_cons (pe_op op_add (pe_op op_add (pv 0) (pe_op op_mulS pe_int (pv 1))) pe_int) pa_nil)) pe_int) pe_int))
      (pss_cons (ps_set (i := 2) sc__law_mixed.nd rfl (Or.inl rfl) (pe_op op_mod (pe_op op_mulS (pv 2) (pe_op op_add (pe_op op_fdivW (pv 2) pe_int) pe_int)) pe_int))
      (pss_one (ps_ret (pe_op op_mod (pe_op op_mulS (pv 2) (pe_op op_add (pe_op op_fdivW (pv 2) pe_int) pe_int)) pe_int))))), ?_⟩
    try simp only [cxOf]
    obtain ⟨c, n, rfl, q⟩ := h
    walk_at "W"
    exact q _ (Int.emod_nonneg _ (by decide)) (Int.emod_lt_of_pos _ (by decide))
abbrev s__law_draw : Stmt := top 47
theorem sc__law_draw : FnScope ["state", "many", "digit", "cells", "at", "cell", "number", "turn"] ["state", "many"] (defScope s__law_draw) := ⟨rfl, rfl, rfl, by decide +kernel, rfl, by decide +kernel, by decide +kernel⟩

def sp__law_draw (Z : Zs) : Sp := fun vs H Q E =>
  ∃ p c many, vs = [.ref p, .int many] ∧ StA H p c ∧ 0 < many ∧ Bd many ∧ ∀ n H', 0 ≤ n → n < many → SameX p H H' → StA H' p c → Q (.int n) H'
theorem ok__law_draw (T : Txt Z mg) (h__law_mixed : Has P w Z.K mg base "_law_mixed" 1 ["cell", "count"] (sp__law_mixed Z)) (D : AtF Z.K mg "_law_draw" "_law_draw" s__law_draw ["state", "many"]) : Has P w Z.K mg base "_law_draw" 2 ["state", "many"] (sp__law_draw Z) := by
  refine D.ok sc__law_draw (fun vs H Q E h => ?_) (fun cdv A outer s H vs Q E hr h => ?_)
  · obtain ⟨p, c, many, rfl, _⟩ := h
    rfl
  · refine ⟨_, (pss_cons (ps_if (pt_cmpR op_gt (pe_ix ix_seq (pv 0) pe_int (fun _ _ => rfl)) pe_int (nomark _)) (pss_cons (ps_set (i := 2) sc__law_draw.nd rfl (Or.inl rfl) (pe_op op_mod (pe_callTy cn_int rfl T.n_int (by decide +kernel) (pa_cons (pe_ix ix_seq (pv 0) pe_int (fun _ _ => rfl)) pa_nil)) (pv 1)))
      (pss_cons (ps_asg (pe_op op_fdivW (pe_ix ix_seq (pv 0) pe_int (fun _ _ => rfl)) (pv 1)) (pg_sub (pv 0) pe_int set_list))
      (pss_one (ps_ret (pv 2))))) pss_nil)
      (pss_cons (ps_set (i := 3) sc__law_draw.nd rfl (Or.inl rfl) (pe_ix ix_seq (pv 0) pe_int (fun _ _ => rfl)))
      (pss_cons (ps_set (i := 4) sc__law_draw.nd rfl (Or.inl rfl) (pe_ix ix_seq (pv 0) pe_int (fun _ _ => rfl)))
      (pss_cons (ps_asg (pe_op op_add (pv 4) pe_int) (pg_sub (pv 0) pe_int set_list))
      (C8.pss_cut (ps_if (PW.pt (pw_and (pt_cmpR op_lt (pv 4) (pe_callB cn_len rfl T.n_len (by decide +kernel) (pa_cons (pv 3) pa_nil)) (nomark _)) (pw_and1 (pt_cmpR op_ge (pe_callB cn_abs rfl T.n_abs (by decide +kernel) (pa_cons (pe_ix ix_seq (pv 3) (pv 4) (fun _ _ => rfl)) pa_nil)) (pe_op op_pow pe_int pe_int) (nomark _))))) (pss_cons (ps_asg (pe_op op_fdivW (pe_callB cn_abs rfl T.n_abs (by decide +kernel) (pa_cons (pe_ix ix_seq (pv 3) (pv 4) (fun _ _ => rfl)) pa_nil)) (pv 1)) (pg_sub (pv 0) pe_int set_list))
      (pss_one (ps_ret (pe_op op_mod (pe_callTy cn_int rfl T.n_int (by decide +kernel) (pa_cons (pe_callB cn_abs rfl T.n_abs (by decide +kernel) (pa_cons (pe_ix ix_seq (pv 3) (pv 4) (fun _ _ => rfl)) pa_nil)) pa_nil)) (pv 1))))) pss_nil)
      (pss_cons (ps_set (i := 5) sc__law_draw.nd rfl (Or.inl rfl) pe_int)
      (C8.pss_cut (ps_if (pt_cmpR op_gt (pe_callB cn_len rfl T.n_len (by decide +kernel) (pa_cons (pv 3) pa_nil)) pe_int (nomark _)) (pss_one (ps_set (i := 5) sc__law_draw.nd rfl (Or.inl rfl) (pe_ix ix_seq (pv 3) (pe_op op_mod (pe_callTy cn_int rfl T.n_int (by decide +kernel) (pa_cons (pv 4) pa_nil)) (pe_callB cn_len rfl T.n_len (by decide +kernel) (pa_cons (pv 3) pa_nil))) (fun _ _ => rfl)))) pss_nil)
      (pss_cons (ps_set (i := 6) sc__law_draw.nd rfl (Or.inl rfl) (pe_h (E := ED E) h__law_mixed hr (paW (takes_of rfl rfl rfl rfl)) (pa_cons (pv 5) (pa_cons (pv 4) pa_nil))))
      (C8.pss_cut (ps_if (pt_cmpR op_gt (pv 1) pe_int (nomark _)) (pss_one (ps_for (passes_of rfl) rfl (pi_range1 rfl T.n_range (pa_cons pe_int pa_nil)) (pg_name (i := 7) sc__law_draw.nd rfl (Or.inl rfl)) (pss_one (ps_set (i := 6) sc__law_draw.nd rfl (Or.inl rfl) (pe_op op_add (pe_op op_mulS (pv 6) pe_int) (pe_h (E := ED E) h__law_mixed hr (paW (takes_of rfl rfl rfl rfl)) (pa_cons (pe_op op_add (pv 5) (pe_op op_mulS pe_int (pv 7))) (pa_cons (pe_op op_add (pe_op op_add (pe_op op_mulS pe_int (pv 4)) (pe_op op_mulS pe_int (pv 7))) pe_int) pa_nil)))))))) pss_nil)
      (pss_one (ps_ret (pe_op op_mod (pe_callTy cn_int rfl T.n_int (by decide +kernel) (pa_cons (pv 6) pa_nil)) (pv 1))))))))))))), ?_⟩
    try simp only [cxOf]
    obtain ⟨p, c, many, rfl, ⟨ns, at_, pend, hp, hc, cp, h0, h1⟩, hm, hmb, q⟩ := h
    have hdw : ∀ x : Int, CDivW x many := fun x => wide_div hm hmb (by decide) (by decide)
    walk_at "W"
    refine w_ite (fun hg => ?_) (fun hg => ?_)
    · walk_at "W"
      refine w_I (hdw _) ?_
      walk_at "W"
      refine w_setL hp rfl fun H1 s1 e1 => ?_
      walk_at "W"
      exact q _ _ (Int.emod_nonneg _ (by omega)) (Int.emod_lt_of_pos _ hm) s1 ⟨ns, at_, pend / many, e1, s1 _ _ cp hc, cp, h0, Int.ediv_nonneg h1 (by omega)⟩
    walk_at "W"
    refine w_setL hp rfl fun H1 s1 e1 => ?_
    have hc1 : H1 c = some (.lst (ns.map V.int)) := s1 _ _ cp hc
    have st1 : StA H1 p c := ⟨ns, at_ + 1, pend, e1, hc1, cp, by omega, h1⟩
    walk_at "W"
    refine w_cutE (σ' := [some (.ref p), some (.int many), none, some (.ref c), some (.int at_), none, none, none]) (H' := H1) ?_ ?_
    · walk_at "W"
      refine w_lenL (SqL.of hc1) ?_
      walk_at "W"
      refine w_ite (fun hl => ?_) (fun hl => ?_)
      · obtain ⟨z, hz⟩ := atI_ints (ns := ns) h0 (by simpa using hl)
        walk_at "W"
        refine w_ixL hc1 hz ?_
        walk_at "W"
        refine w_ite (fun _ => ?_) (fun _ => ?_)
        · walk_at "W"
          refine w_ixL hc1 hz ?_
          walk_at "W"
          refine w_I (hdw _) ?_
          walk_at "W"
          refine w_setL e1 rfl fun H2 s2 e2 => ?_
          walk_at "W"
          have hc2 : H2 c = some (.lst (ns.map V.int)) := s2 _ _ cp hc1
          refine w_ixL hc2 hz ?_
          walk_at "W"
          exact q _ _ (Int.emod_nonneg _ (by omega)) (Int.emod_lt_of_pos _ hm) (s1.trans s2) ⟨ns, at_ + 1, _, e2, hc2, cp, by omega, Int.ediv_nonneg (Int.natCast_nonneg _) (by omega)⟩
        · walk_at "W"
          exact ⟨rfl, rfl⟩
      · walk_at "W"
        exact ⟨rfl, rfl⟩
    walk_at "W"
    refine w_cut (fun σ' H' => H' = H1 ∧ ∃ z : Int, σ' = [some (.ref p), some (.int many), none, some (.ref c), some (.int at_), some (.int z), none, none]) ?_ ?_
    · walk_at "W"
      refine w_lenL (SqL.of hc1) ?_
      walk_at "W"
      refine w_ite (fun hl => ?_) (fun hl => ?_)
      · walk_at "W"
        refine w_lenL (SqL.of hc1) ?_
        walk_at "W"
        have hl' : 0 < (ns.length : Int) := by simpa using hl
        have hl2 : (0 : Int) < (((ns.map V.int).length : Nat) : Int) := by simpa using hl'
        obtain ⟨z, hz⟩ := atI_ints (ns := ns) (k := at_ % ((ns.map V.int).length : Int)) (Int.emod_nonneg _ (by rw [List.length_map]; omega)) (by have := Int.emod_lt_of_pos at_ (b := ((ns.map V.int).length : Int)) (by simpa using hl'); simpa using this)
        refine w_ixL hc1 hz ?_
        walk_at "W"
        exact ⟨rfl, z, rfl⟩
      · walk_at "W"
        exact ⟨rfl, 0, rfl⟩
    rintro σ1 H2 ⟨rfl, z, rfl⟩
    walk_at "W"
    refine ⟨z, at_, rfl, fun r hr0 hr1 => ?_⟩
    walk_at "W"
    refine w_cut (fun σ' H' => Same H2 H' ∧ ∃ (n : Int) (v : Option V), σ' = [some (.ref p), some (.int many), none, some (.ref c), some (.int at_), some (.int z), some (.int n), v]) ?_ ?_
    · walk_at "W"
      refine w_ite (fun _ => ?_) (fun _ => ?_)
      · walk_at "W"
        refine k_forR (fun _ σ' H' => Same H2 H' ∧ ∃ (n : Int) (v : Option V), σ' = [some (.ref p), some (.int many), none, some (.ref c), some (.int at_), some (.int z), some (.int n), v]) (by decide) (by decide) ⟨Same.refl _, r, none, rfl⟩ ?_ ?_
        · rintro i σ' H' hi ⟨s2, n, v, rfl⟩
          have hi7 : i < 7 := hi
          walk_at "W"
          refine ⟨_, _, rfl, fun r' _ _ => ?_⟩
          walk_at "W"
          exact ⟨s2, _, _, rfl⟩
        · rintro σ' H' ⟨s2, n, v, rfl⟩
          walk_at "W"
          exact ⟨s2, n, v, rfl⟩
      · walk_at "W"
        exact ⟨Same.refl _, r, none, rfl⟩
    rintro σ1 H3 ⟨s2, n, v, rfl⟩
    walk_at "W"
    exact q _ _ (Int.emod_nonneg _ (by omega)) (Int.emod_lt_of_pos _ hm) (s1.trans (Same.x s2)) (st1.same s2)
abbrev s__law_between : Stmt := top 48
theorem sc__law_between : FnScope ["state", "least", "most"] ["state", "least", "most"] (defScope s__law_between) := ⟨rfl, rfl, rfl, by decide +kernel, rfl, by decide +kernel, by decide +kernel⟩

def sp__law_between (Z : Zs) : Sp := fun vs H Q E =>
  ∃ p c lo hi, vs = [.ref p, .int lo, .int hi] ∧ StA H p c ∧ lo ≤ hi ∧ Bd (hi - lo + 1) ∧ ∀ n H', lo ≤ n → n ≤ hi → SameX p H H' → StA H' p c → Q (.int n) H'
theorem ok__law_between (T : Txt Z mg) (h__law_draw : Has P w Z.K mg base "_law_draw" 2 ["state", "many"] (sp__law_draw Z)) (D : AtF Z.K mg "_law_between" "_law_between" s__law_between ["state", "least", "most"]) : Has P w Z.K mg base "_law_between" 3 ["state", "least", "most"] (sp__law_between Z) := by
  refine D.ok sc__law_between (fun vs H Q E h => ?_) (fun cdv A outer s H vs Q E hr h => ?_)
  · obtain ⟨p, c, lo, hi, rfl, _⟩ := h
    rfl
  · refine ⟨_, (pss_one (ps_ret (pe_op op_add (pv 1) (pe_h (E := ED E) h__law_draw hr (paW (takes_of rfl rfl rfl rfl)) (pa_cons (pv 0) (pa_cons (pe_op op_add (pe_op op_sub (pv 2) (pv 1)) pe_int) pa_nil)))))), ?_⟩
    try simp only [cxOf]
    obtain ⟨p, c, lo, hi, rfl, hs, hl, hb, q⟩ := h
    walk_at "W"
    refine ⟨p, c, _, rfl, hs, by omega, hb, fun n H' h0 h1 s1 st => ?_⟩
    walk_at "W"
    exact q _ H' (by omega) (by omega) s1 st
theorem natgcd_mod (a b : Nat) : Nat.gcd b (a % b) = Nat.gcd a b := by rw [Nat.gcd_comm a b, Nat.gcd_rec b a, Nat.gcd_comm]
theorem bd_of {x : Int} {n : Nat} (h : x.natAbs ≤ n) (hn : Nat.blt n (2 ^ 8000) = true) : Bd x := Nat.lt_of_le_of_lt h (by simpa using hn)
/-- three ints of a list that a law has made, beside its state -/
def L3 (H : Hp) (st sc pl : Addr) (m : Nat) (t r b : Int) : Prop := H pl = some (.lst [.int t, .int r, .int b]) ∧ (pl ≠ st ∧ pl ≠ sc) ∧ t.natAbs ≤ m ∧ r.natAbs ≤ m ∧ b.natAbs ≤ m
theorem L3.sx {H H' : Hp} {st sc pl : Addr} {m : Nat} {t r b : Int} (h : L3 H st sc pl m t r b) (s : SameX st H H') : L3 H' st sc pl m t r b := ⟨s _ _ h.2.1.1 h.1, h.2⟩
theorem len3 {ns : List Int} (h : ns.length = 3) : ∃ a b c, ns = [a, b, c] := by
  match ns, h with
  | [a, b, c], _ => exact ⟨a, b, c, rfl⟩
theorem k_draw {st sc : Addr} {many : Int} {H : Hp} {Q : VK} {E : XK} (hs : StA H st sc) (h1 : 0 < many) (h2 : Nat.blt many.natAbs 1000000 = true) (q : ∀ n H', 0 ≤ n → n < many → SameX st H H' → StA H' st sc → Q (.int n) H') : sp__law_draw Z [.ref st, .int many] H Q E :=
  ⟨st, sc, many, rfl, hs, h1, Nat.lt_of_lt_of_le (by simpa using h2 : many.natAbs < 1000000) (by decide), q⟩
theorem k_between {st sc : Addr} {lo hi : Int} {H : Hp} {Q : VK} {E : XK} (hs : StA H st sc) (h1 : lo ≤ hi) (h2 : (hi - lo + 1).natAbs ≤ 10 ^ 30) (q : ∀ n H', lo ≤ n → n ≤ hi → SameX st H H' → StA H' st sc → Q (.int n) H') : sp__law_between Z [.ref st, .int lo, .int hi] H Q E :=
  ⟨st, sc, lo, hi, rfl, hs, h1, Nat.lt_of_le_of_lt h2 (by decide), q⟩
theorem fdiv_small {t b : Int} (hb : b ≠ 0) (h : t.fmod b = 0) : (t.fdiv b).natAbs ≤ t.natAbs := by
  have e := Int.fmod_add_mul_fdiv t b
  rw [h, Int.zero_add] at e
  have : t.natAbs = b.natAbs * (t.fdiv b).natAbs := by rw [← Int.natAbs_mul, e]
  rw [this]
  exact Nat.le_mul_of_pos_left _ (Int.natAbs_pos.mpr hb)
theorem bdm {x y : Int} (hx : Bd x) (hy : Bd y) : CMulS x y := .inr (.inr (wide_mul hx hy (by decide) (by decide) (by decide)))
theorem Th.isN_same {c : Addr} {H H' : Hp} {v : V} (h : Th c H v) (s : Same H H') : isN c H' v = isN c H v := by
  have k : ∀ {a : Addr} {o : HO}, H a = some o → isN c H' (.ref a) = isN c H (.ref a) := fun {a o} e => by
    unfold isN isC
    simp only [e, s _ _ e]
  cases h with
  | lst a xs e => exact k e
  | tup a xs e => exact k e
  | dK a xs e => exact k e
  | root a dx t r b e => exact k e
  | _ => rfl
abbrev s__law_plus : Stmt := top 49
theorem sc__law_plus : FnScope ["one", "other"] ["one", "other"] (defScope s__law_plus) := ⟨rfl, rfl, rfl, by decide +kernel, rfl, by decide +kernel, by decide +kernel⟩

def sp__law_plus (Z : Zs) : Sp := fun vs H Q E =>
  spTwo plus vs H Q E
theorem ok__law_plus (T : Txt Z mg)  (D : AtF Z.K mg "_law_plus" "_law_plus" s__law_plus ["one", "other"]) : Has P w Z.K mg base "_law_plus" 1 ["one", "other"] (sp__law_plus Z) := by
  refine D.ok sc__law_plus (fun vs H Q E h => ?_) (fun cdv A outer s H vs Q E hr h => ?_)
  · obtain ⟨p, p', t, r, b, t', r', b', rfl, _⟩ := h
    rfl
  · refine ⟨_, (pss_one (ps_ret (pe_tup (pa_cons (pe_op op_add (pe_op op_mulS (pe_ix ix_seq (pv 0) pe_int (fun _ _ => rfl)) (pe_ix ix_seq (pv 1) pe_int (fun _ _ => rfl))) (pe_op op_mulS (pe_ix ix_seq (pv 1) pe_int (fun _ _ => rfl)) (pe_ix ix_seq (pv 0) pe_int (fun _ _ => rfl)))) (pa_cons (pe_op op_add (pe_op op_mulS (pe_ix ix_seq (pv 0) pe_int (fun _ _ => rfl)) (pe_ix ix_seq (pv 1) pe_int (fun _ _ => rfl))) (pe_op op_mulS (pe_ix ix_seq (pv 1) pe_int (fun _ _ => rfl)) (pe_ix ix_seq (pv 0) pe_int (fun _ _ => rfl)))) (pa_cons (pe_op op_mulS (pe_ix ix_seq (pv 0) pe_int (fun _ _ => rfl)) (pe_ix ix_seq (pv 1) pe_int (fun _ _ => rfl))) pa_nil)))))), ?_⟩
    try simp only [cxOf]
    obtain ⟨p, p', t, r, b, t', r', b', rfl, h1, h2, ⟨bt, br, bb⟩, ⟨bt', br', bb'⟩, q⟩ := h
    unfold T3 at h1 h2
    repeat (first | walk_at "s" | walk_at "mul")
    exact k_tup rfl q
abbrev s__law_minus : Stmt := top 50
theorem sc__law_minus : FnScope ["one", "other"] ["one", "other"] (defScope s__law_minus) := ⟨rfl, rfl, rfl, by decide +kernel, rfl, by decide +kernel, by decide +kernel⟩

def sp__law_minus (Z : Zs) : Sp := fun vs H Q E =>
  spTwo minus vs H Q E
theorem ok__law_minus (T : Txt Z mg)  (D : AtF Z.K mg "_law_minus" "_law_minus" s__law_minus ["one", "other"]) : Has P w Z.K mg base "_law_minus" 1 ["one", "other"] (sp__law_minus Z) := by
  refine D.ok sc__law_minus (fun vs H Q E h => ?_) (fun cdv A outer s H vs Q E hr h => ?_)
  · obtain ⟨p, p', t, r, b, t', r', b', rfl, _⟩ := h
    rfl
  · refine ⟨_, (pss_one (ps_ret (pe_tup (pa_cons (pe_op op_sub (pe_op op_mulS (pe_ix ix_seq (pv 0) pe_int (fun _ _ => rfl)) (pe_ix ix_seq (pv 1) pe_int (fun _ _ => rfl))) (pe_op op_mulS (pe_ix ix_seq (pv 1) pe_int (fun _ _ => rfl)) (pe_ix ix_seq (pv 0) pe_int (fun _ _ => rfl)))) (pa_cons (pe_op op_sub (pe_op op_mulS (pe_ix ix_seq (pv 0) pe_int (fun _ _ => rfl)) (pe_ix ix_seq (pv 1) pe_int (fun _ _ => rfl))) (pe_op op_mulS (pe_ix ix_seq (pv 1) pe_int (fun _ _ => rfl)) (pe_ix ix_seq (pv 0) pe_int (fun _ _ => rfl)))) (pa_cons (pe_op op_mulS (pe_ix ix_seq (pv 0) pe_int (fun _ _ => rfl)) (pe_ix ix_seq (pv 1) pe_int (fun _ _ => rfl))) pa_nil)))))), ?_⟩
    try simp only [cxOf]
    obtain ⟨p, p', t, r, b, t', r', b', rfl, h1, h2, ⟨bt, br, bb⟩, ⟨bt', br', bb'⟩, q⟩ := h
    unfold T3 at h1 h2
    repeat (first | walk_at "s" | walk_at "mul")
    exact k_tup rfl q
abbrev s__law_sign : Stmt := top 51
theorem sc__law_sign : FnScope ["number", "top", "root"] ["number"] (defScope s__law_sign) := ⟨rfl, rfl, rfl, by decide +kernel, rfl, by decide +kernel, by decide +kernel⟩

def sp__law_sign (Z : Zs) : Sp := fun vs H Q E =>
  ∃ p t r b, vs = [.ref p] ∧ T3 H p t r b ∧ Bw 3000 t ∧ Bw 3000 r ∧ Q (.int (sgn t r)) H
theorem ok__law_sign (T : Txt Z mg)  (D : AtF Z.K mg "_law_sign" "_law_sign" s__law_sign ["number"]) : Has P w Z.K mg base "_law_sign" 1 ["number"] (sp__law_sign Z) := by
  refine D.ok sc__law_sign (fun vs H Q E h => ?_) (fun cdv A outer s H vs Q E hr h => ?_)
  · obtain ⟨p, t, r, b, rfl, _⟩ := h
    rfl
  · refine ⟨_, (pss_cons (ps_set (i := 1) sc__law_sign.nd rfl (Or.inl rfl) (pe_ix ix_seq (pv 0) pe_int (fun _ _ => rfl)))
      (pss_cons (ps_set (i := 2) sc__law_sign.nd rfl (Or.inl rfl) (pe_ix ix_seq (pv 0) pe_int (fun _ _ => rfl)))
      (C8.pss_cut (ps_if (PW.pt (pw_and (pt_cmpR op_eq (pv 1) pe_int (nomark _)) (pw_and1 (pt_cmpR op_eq (pv 2) pe_int (nomark _))))) (pss_one (ps_ret pe_int)) pss_nil)
      (C8.pss_cut (ps_if (PW.pt (pw_and (pt_cmpR op_ge (pv 1) pe_int (nomark _)) (pw_and1 (pt_cmpR op_ge (pv 2) pe_int (nomark _))))) (pss_one (ps_ret pe_int)) pss_nil)
      (C8.pss_cut (ps_if (PW.pt (pw_and (pt_cmpR op_le (pv 1) pe_int (nomark _)) (pw_and1 (pt_cmpR op_le (pv 2) pe_int (nomark _))))) (pss_one (ps_ret (pe_un un_neg pe_int))) pss_nil)
      (pss_cons (ps_if (pt_cmpR op_gt (pe_op op_mulS (pv 1) (pv 1)) (pe_op op_mulS (pe_op op_mulS pe_int (pv 2)) (pv 2)) (nomark _)) (pss_one (ps_ret (pe_ifExp (pt_cmpR op_gt (pv 1) pe_int (nomark _)) pe_int (pe_un un_neg pe_int)))) pss_nil)
      (pss_one (ps_ret (pe_ifExp (pt_cmpR op_gt (pv 2) pe_int (nomark _)) pe_int (pe_un un_neg pe_int)))))))))), ?_⟩
    try simp only [cxOf]
    obtain ⟨p, t, r, b, rfl, h1, bt, br, q⟩ := h
    unfold T3 at h1
    have L : ∀ {k : Int}, sgn t r = k → Q (.int k) H := fun e => e ▸ q
    walk_at "W"
    refine w_cut (fun σ' H' => (σ' = [some (.ref p), some (.int t), some (.int r)] ∧ H' = H) ∧ ¬ (t = 0 ∧ r = 0)) ?_ ?_
    · walk_at "W"
      refine w_ite (fun h1 => ?_) (fun h1 => ?_)
      · walk_at "W"
        refine w_ite (fun h2 => ?_) (fun h2 => ?_)
        · walk_at "W"
          exact L (by unfold sgn; rw [if_pos]; simp at h1 h2; omega)
        · walk_at "W"
          exact ⟨⟨rfl, rfl⟩, by simp at h1 h2; omega⟩
      · walk_at "W"
        exact ⟨⟨rfl, rfl⟩, by simp at h1; omega⟩
    rintro σ' H' ⟨⟨rfl, rfl⟩, n1⟩
    walk_at "W"
    refine w_cut (fun σ' H1 => (σ' = [some (.ref p), some (.int t), some (.int r)] ∧ H1 = H') ∧ ¬ (0 ≤ t ∧ 0 ≤ r)) ?_ ?_
    · walk_at "W"
      refine w_ite (fun h1 => ?_) (fun h1 => ?_)
      · walk_at "W"
        refine w_ite (fun h2 => ?_) (fun h2 => ?_)
        · walk_at "W"
          exact L (by unfold sgn; rw [if_neg n1, if_pos ⟨h1, h2⟩])
        · walk_at "W"
          exact ⟨⟨rfl, rfl⟩, fun z => h2 z.2⟩
      · walk_at "W"
        exact ⟨⟨rfl, rfl⟩, fun z => h1 z.1⟩
    rintro σ' H1 ⟨⟨rfl, rfl⟩, n2⟩
    walk_at "W"
    refine w_cut (fun σ' H' => (σ' = [some (.ref p), some (.int t), some (.int r)] ∧ H' = H1) ∧ ¬ (t ≤ 0 ∧ r ≤ 0)) ?_ ?_
    · walk_at "W"
      refine w_ite (fun h1 => ?_) (fun h1 => ?_)
      · walk_at "W"
        refine w_ite (fun h2 => ?_) (fun h2 => ?_)
        · walk_at "W"
          exact L (by unfold sgn; rw [if_neg n1, if_neg n2, if_pos ⟨h1, h2⟩])
        · walk_at "W"
          exact ⟨⟨rfl, rfl⟩, fun z => h2 z.2⟩
      · walk_at "W"
        exact ⟨⟨rfl, rfl⟩, fun z => h1 z.1⟩
    rintro σ' H' ⟨⟨rfl, rfl⟩, n3⟩
    repeat (first | walk_at "s" | walk_at "mul")
    have go : ∀ {k : Int}, (if t * t > 2 * r * r then (if 0 < t then 1 else -1) else if 0 < r then 1 else -1) = k → Q (.int k) H' := fun e => L (by unfold sgn; rw [if_neg n1, if_neg n2, if_neg n3]; exact e)
    refine w_ite (fun h1 => ?_) (fun h1 => ?_)
    · walk_at "W"
      refine w_ite (fun h2 => ?_) (fun h2 => ?_)
      · walk_at "W"
        exact go (by rw [if_pos h1, if_pos h2])
      · walk_at "W"
        exact go (by rw [if_pos h1, if_neg h2])
    · walk_at "W"
      refine w_ite (fun h2 => ?_) (fun h2 => ?_)
      · walk_at "W"
        exact go (by rw [if_neg h1, if_pos h2])
      · walk_at "W"
        exact go (by rw [if_neg h1, if_neg h2])
/-! ### what two numbers make, told of the same numbers times something -/
def Hom (F : F3) : Prop := ∀ t r b t' r' b' s s' : Int, s ≠ 0 → s' ≠ 0 → ∃ k : Int, k ≠ 0 ∧ F.t (t * s) (r * s) (b * s) (t' * s') (r' * s') (b' * s') = F.t t r b t' r' b' * k ∧
  F.r (t * s) (r * s) (b * s) (t' * s') (r' * s') (b' * s') = F.r t r b t' r' b' * k ∧ F.b (t * s) (r * s) (b * s) (t' * s') (r' * s') (b' * s') = F.b t r b t' r' b' * k
theorem hom_plus : Hom plus := fun t r b t' r' b' s s' h h' => ⟨s * s', Int.mul_ne_zero h h', by unfold plus; dsimp only; grind, by unfold plus; dsimp only; grind, by unfold plus; dsimp only; grind⟩
theorem hom_minus : Hom minus := fun t r b t' r' b' s s' h h' => ⟨s * s', Int.mul_ne_zero h h', by unfold minus; dsimp only; grind, by unfold minus; dsimp only; grind, by unfold minus; dsimp only; grind⟩
theorem hom_times : Hom times := fun t r b t' r' b' s s' h h' => ⟨s * s', Int.mul_ne_zero h h', by unfold times; dsimp only; grind, by unfold times; dsimp only; grind, by unfold times; dsimp only; grind⟩
theorem hom_quot : Hom quot := fun t r b t' r' b' s s' h h' => ⟨s * (s' * s'), Int.mul_ne_zero h (Int.mul_ne_zero h' h'), by unfold quot; dsimp only; grind, by unfold quot; dsimp only; grind, by unfold quot; dsimp only; grind⟩
/-- what the lowest terms make is what the numbers make -/
theorem low_hom {F : F3} (hF : Hom F) {c : Addr} {H : Hp} {v : V} {t r b t' r' b' : Int} (hb : b ≠ 0) (hb' : b' ≠ 0) (n : F.b (lowT t r b) (lowR t r b) (lowB t r b) (lowT t' r' b') (lowR t' r' b') (lowB t' r' b') ≠ 0)
    (h : LowAt c H v (F.t (lowT t r b) (lowR t r b) (lowB t r b) (lowT t' r' b') (lowR t' r' b') (lowB t' r' b')) (F.r (lowT t r b) (lowR t r b) (lowB t r b) (lowT t' r' b') (lowR t' r' b') (lowB t' r' b')) (F.b (lowT t r b) (lowR t r b) (lowB t r b) (lowT t' r' b') (lowR t' r' b') (lowB t' r' b'))) :
    LowAt c H v (F.t t r b t' r' b') (F.r t r b t' r' b') (F.b t r b t' r' b') := by
  obtain ⟨s, hs, e1, e2, e3⟩ := (low_is (t := t) (r := r) hb).s
  obtain ⟨s', hs', e1', e2', e3'⟩ := (low_is (t := t') (r := r') hb').s
  obtain ⟨k, hk, k1, k2, k3⟩ := hF (lowT t r b) (lowR t r b) (lowB t r b) (lowT t' r' b') (lowR t' r' b') (lowB t' r' b') s s' hs hs'
  rw [← e1, ← e2, ← e3, ← e1', ← e2', ← e3'] at k1 k2 k3
  exact h.congr' n hk k1 k2 k3
theorem k_ownB {x y : V} {t r b t' r' b' : Int} {H : Hp} {Q : VK} {sp spr : Sp} {E : XK} {c : Addr} {F : F3} (e1 : sp = spBin c F) (e2 : spr = spBin c (back F)) (hx : NumAt c H x t r b) (hy : NumAt c H y t' r' b') (one : RootAt c H x t r b ∨ RootAt c H y t' r' b') (sm : Sm t r b) (sm' : Sm t' r' b')
    (q : ∀ v' H', Same H H' → LowAt c H' v' (F.t t r b t' r' b') (F.r t r b t' r' b') (F.b t r b t' r' b') → Q v' H') : rOwnB c sp spr E x y H Q := by
  subst e1 e2
  have two : ∀ {v : V} {t r b : Int}, NumAt c H v t r b → (∃ i, v = .int i) ∨ ∃ a' dx' fs', v = .ref a' ∧ H a' = some (.ins c dx' fs') := fun h => by
    rcases h with ⟨a', dx', rfl, ha'⟩ | ⟨i, rfl, _⟩
    · exact .inr ⟨a', dx', _, rfl, ha'⟩
    · exact .inl ⟨i, rfl⟩
  rcases hx with hx | ⟨i, rfl, hi⟩
  · have hx' := hx
    obtain ⟨a, dx, rfl, ha⟩ := hx
    exact .inl ⟨a, dx, _, rfl, ha, two hy, _, _, t, r, b, t', r', b', rfl, hx', sm, hy, sm', q⟩
  · rcases one with ⟨a, dx, z, _⟩ | hy'
    · cases z
    · have hy2 := hy'
      obtain ⟨a, dx, rfl, ha⟩ := hy2
      exact .inr ⟨i, a, dx, _, rfl, rfl, ha, _, _, t', r', b', t, r, b, rfl, hy', sm', .inr ⟨i, rfl, hi⟩, sm, q⟩
theorem eqRt_num {H : Hp} {t r b t' r' b' : Int} {v : V} {c : Addr} (h : NumAt c H v t' r' b') : eqRt H t r b v = decide (t' = t ∧ r' = r ∧ b' = b) ∨ ∃ i, v = .int i ∧ t' = i ∧ r' = 0 ∧ b' = 1 ∧ eqRt H t r b v = (decide (r = 0) && (decide (b = 1) && decide (t = i))) := by
  rcases h with h | ⟨i, rfl, h1, h2, h3⟩
  · exact .inl (eqRt_root h)
  · exact .inr ⟨i, rfl, h1, h2, h3, rfl⟩
theorem eqRt_self {H : Hp} {t r b : Int} {v : V} {c : Addr} (h : NumAt c H v t r b) : eqRt H t r b v = true := by
  rcases eqRt_num (t := t) (r := r) (b := b) h with e | ⟨i, rfl, rfl, rfl, rfl, e⟩
  · rw [e]; simp
  · rw [e]; simp
theorem NumAt.sx {c st sc : Addr} {H H' : Hp} {v : V} {t r b : Int} (h : NumAt c H v t r b) (hs : StA H st sc) (s : SameX st H H') : NumAt c H' v t r b := h.imp (·.sx hs s) id
/-- != of plain things -/
def rNeU (K : PySem.W.Frag) : R2 := fun x y H Q => rNeD K x y H Q ∨ rNeDA x y H Q
theorem op_neU {X : Cx} (hu : X.A.units + 64 < cLine) : OpR X (compareOp .NotEq) (rNeU X.K) := (op_neD hu).or (op_ne_dictA (by omega))
theorem w_neSelf {K : PySem.W.Frag} {H : Hp} {Q : VK} {v : V} (h : (∃ b, v = .bl b) ∨ Selfy H v) (q : Q (.bl false) H) : rNeU K v v H Q := by
  have go : ∀ d, Dp K H v d → SeqAt.shaped d = true → rNeU K v v H Q := fun d hd sd => .inl ⟨d, d, hd, hd, sd, sd, by rw [SeqAt.eqv_refl d (SeqAt.canLay_of_shaped sd)]; exact q⟩
  rcases h with ⟨b, rfl⟩ | h
  · exact go _ (.bl b) (by cases b <;> decide +kernel)
  cases h with
  | non => exact go _ .non (by decide +kernel)
  | int i => exact go _ (.int i) rfl
  | str s h => exact go _ (.str s) h
  | lst a ns e => exact go _ (.lst (SqL.of e) (dp_ints ns)) (shaped_intsL ns)
  | tup a ns e => exact go _ (.tup (SqT.of e) (dp_ints ns)) (shaped_ints ns)
  | dK a e => exact .inr ⟨a, a, [], [], rfl, rfl, e, e, rfl, (fun _ h => nomatch h), q⟩
theorem T3.sx {H H' : Hp} {st sc u : Addr} {t r b : Int} (h : T3 H u t r b) (hs : StA H st sc) (s : SameX st H H') : T3 H' u t r b := s _ _ (hs.ne h (by intro xs z; cases z)) h
theorem NumAt.isB {c : Addr} {H : Hp} {v : V} {t r b : Int} (h : NumAt c H v t r b) : isB v = false := by
  rcases h with ⟨a, dx, rfl, e⟩ | ⟨i, rfl, _⟩ <;> rfl
theorem k_eq0 {mg : Str → Option Value} (T : Txt Z mg) {H : Hp} {Q : VK} {E : XK} {o : V} {t' r' b' : Int} (hn : NumAt Z.c_Root H o t' r' b') (sm : Sm t' r' b') (z : t' = 0 ∧ r' = 0) (q : Q (.bl true) H) : rOwnC Z.K Z.c_Root (sp_Root_eq Z) E o (.int 0) H Q ∨ rEq o (.int 0) H Q := by
  rcases hn with hn | ⟨i, rfl, h1, h2, h3⟩
  · refine .inl (k_eqC T hn (.int 0) ?_)
    have : eqRt H t' r' b' (.int 0) = true := by
      show (decide (r' = 0) && (decide (b' = 1) && decide (t' = 0))) = true
      rw [← Bool.decide_and, ← Bool.decide_and]
      exact decide_eq_true ((sm_zero sm).mpr z)
    rw [this]
    exact q
  · refine .inr (w_eq rfl ?_)
    have : i = 0 := by omega
    subst this
    exact q
theorem k_eqS {mg : Str → Option Value} (T : Txt Z mg) {H : Hp} {Q : VK} {E : XK} {x y : V} {t r b : Int} (hx : NumAt Z.c_Root H x t r b) (hy : RootAt Z.c_Root H y t r b) (q : Q (.bl true) H) : rOwnC Z.K Z.c_Root (sp_Root_eq Z) E x y H Q ∨ rOwnR Z.K Z.c_Root (sp_Root_eq Z) E x y H Q := by
  have hn : NumAt Z.c_Root H y t r b := .inl hy
  rcases hx with hx | ⟨i, rfl, h1, h2, h3⟩
  · exact .inl (k_eqC T hx hy.th (by rw [eqRt_self hn]; exact q))
  · refine .inr (k_eqR T hy (.inl ⟨i, rfl⟩) ?_)
    rw [eqRt_self (.inr ⟨i, rfl, h1, h2, h3⟩ : NumAt Z.c_Root H (.int i) t r b)]
    exact q
theorem Selfy.same {H H' : Hp} {v : V} (h : Selfy H v) (s : Same H H') : Selfy H' v := by
  cases h with
  | non => exact .non
  | int i => exact .int i
  | str x h => exact .str x h
  | lst a ns e => exact .lst a ns (s _ _ e)
  | tup a ns e => exact .tup a ns (s _ _ e)
  | dK a e => exact .dK a (s _ _ e)
theorem low_zero {t r b : Int} (hb : b ≠ 0) : (lowT t r b = 0 ∧ lowR t r b = 0) ↔ (t = 0 ∧ r = 0) := by
  obtain ⟨s, hs, e1, e2, _⟩ := (low_is (t := t) (r := r) hb).s
  constructor
  · rintro ⟨h1, h2⟩
    rw [h1] at e1; rw [h2] at e2
    exact ⟨by omega, by omega⟩
  · rintro ⟨h1, h2⟩
    exact ⟨(Int.mul_eq_zero.mp (e1.symm.trans h1)).resolve_right hs, (Int.mul_eq_zero.mp (e2.symm.trans h2)).resolve_right hs⟩
theorem LowAt.eq {c : Addr} {H : Hp} {v : V} {t r b t' r' b' : Int} (h : LowAt c H v t r b) (e1 : t = t') (e2 : r = r') (e3 : b = b') : LowAt c H v t' r' b' := by rw [← e1, ← e2, ← e3]; exact h
theorem sgn_scale {t r k : Int} (hk : 0 < k) : sgn (t * k) (r * k) = sgn t r := by
  have z : ∀ x : Int, (x * k = 0) = (x = 0) := fun x => propext ⟨fun h => (Int.mul_eq_zero.mp h).resolve_right (by omega), fun h => by rw [h, Int.zero_mul]⟩
  have p : ∀ x : Int, (0 ≤ x * k) = (0 ≤ x) := fun x => propext ⟨fun h => by
    rcases Int.lt_or_le x 0 with q | q
    · have := Int.mul_neg_of_neg_of_pos q hk; omega
    · exact q, fun h => Int.mul_nonneg h (by omega)⟩
  have n : ∀ x : Int, (x * k ≤ 0) = (x ≤ 0) := fun x => propext ⟨fun h => by
    rcases Int.lt_or_le 0 x with q | q
    · have := Int.mul_pos q hk; omega
    · exact q, fun h => Int.mul_nonpos_of_nonpos_of_nonneg h (by omega)⟩
  have g : ∀ x : Int, (0 < x * k) = (0 < x) := fun x => propext ⟨fun h => by
    rcases Int.lt_or_le 0 x with q | q
    · exact q
    · have := Int.mul_nonpos_of_nonpos_of_nonneg q (show 0 ≤ k by omega); omega, fun h => Int.mul_pos h hk⟩
  have kk : 0 < k * k := Int.mul_pos hk hk
  have m : (t * k * (t * k) > 2 * (r * k) * (r * k)) = (t * t > 2 * r * r) := by
    have e1 : t * k * (t * k) = (t * t) * (k * k) := by grind
    have e2 : 2 * (r * k) * (r * k) = (2 * r * r) * (k * k) := by grind
    rw [e1, e2]
    exact propext ⟨fun h => Int.lt_of_mul_lt_mul_right h (by omega), fun h => Int.mul_lt_mul_of_pos_right h kk⟩
  unfold sgn
  simp only [z, p, n, g, m]
theorem low_pos {t r b : Int} (hb : 0 < b) : ∃ s : Int, 0 < s ∧ t = lowT t r b * s ∧ r = lowR t r b * s ∧ b = lowB t r b * s := by
  have l := low_is (t := t) (r := r) (show b ≠ 0 by omega)
  obtain ⟨s, hs, e1, e2, e3⟩ := l.s
  refine ⟨s, ?_, e1, e2, e3⟩
  rcases Int.lt_trichotomy s 0 with q | q | q
  · have := Int.mul_neg_of_pos_of_neg l.pos q; omega
  · exact absurd q hs
  · exact q
theorem minus_sgn {t1 r1 b1 t2 r2 b2 : Int} (h1 : 0 < b1) (h2 : 0 < b2) : sgn (minus.t (lowT t1 r1 b1) (lowR t1 r1 b1) (lowB t1 r1 b1) (lowT t2 r2 b2) (lowR t2 r2 b2) (lowB t2 r2 b2)) (minus.r (lowT t1 r1 b1) (lowR t1 r1 b1) (lowB t1 r1 b1) (lowT t2 r2 b2) (lowR t2 r2 b2) (lowB t2 r2 b2)) = sgn (minus.t t1 r1 b1 t2 r2 b2) (minus.r t1 r1 b1 t2 r2 b2) := by
  obtain ⟨s, hs, e1, e2, e3⟩ := low_pos (t := t1) (r := r1) h1
  obtain ⟨s', hs', e1', e2', e3'⟩ := low_pos (t := t2) (r := r2) h2
  generalize lowT t1 r1 b1 = x at *
  generalize lowR t1 r1 b1 = y at *
  generalize lowB t1 r1 b1 = z at *
  generalize lowT t2 r2 b2 = x' at *
  generalize lowR t2 r2 b2 = y' at *
  generalize lowB t2 r2 b2 = z' at *
  subst e1 e2 e3 e1' e2' e3'
  have k1 : minus.t (x * s) (y * s) (z * s) (x' * s') (y' * s') (z' * s') = minus.t x y z x' y' z' * (s * s') := by unfold minus; dsimp only; grind
  have k2 : minus.r (x * s) (y * s) (z * s) (x' * s') (y' * s') (z' * s') = minus.r x y z x' y' z' * (s * s') := by unfold minus; dsimp only; grind
  rw [k1, k2, sgn_scale (Int.mul_pos hs hs')]
-- needs W9
local macro_rules | `(tactic| walk_at "s") => `(tactic| first | with_reducible refine L2.My.w_chain ?_ | with_reducible refine L2.My.w_lcTT ?_ | with_reducible refine L2.My.w_forZT ?_ | with_reducible refine L2.My.w_bm ?_)
/-- four ints -/
structure C4 where
  a : Int
  b : Int
  c : Int
  d : Int
def C4.vs (c : C4) : List V := [.int c.a, .int c.b, .int c.c, .int c.d]
def CorAt (H : Hp) (v : V) (c : C4) : Prop := ∃ p, v = .ref p ∧ H p = some (.tup [.int c.a, .int c.b, .int c.c, .int c.d])
theorem CorAt.same {H H' : Hp} {v : V} {c : C4} (h : CorAt H v c) (s : Same H H') : CorAt H' v c := by
  obtain ⟨p, rfl, e⟩ := h
  exact ⟨p, rfl, s _ _ e⟩
theorem CorAt.kps {H H' : Hp} {v : V} {c : C4} (h : CorAt H v c) (s : Kps H H') : CorAt H' v c := by
  obtain ⟨p, rfl, e⟩ := h
  exact ⟨p, rfl, s.tup e⟩
def isCor (xs : List V) : Bool := decide (xs.length = 4) && xs.all isI
/-- a thing that is no corner -/
def BadCor (Z : Zs) (H : Hp) (v : V) : Prop := (Plain H v ∧ isTu H v = false) ∨ ∃ p xs, v = .ref p ∧ H p = some (.tup xs) ∧ xs.length ≤ 500 ∧ (∀ x ∈ xs, ThI Z H x) ∧ isCor xs = false
theorem isTu_same {H H' : Hp} {v : V} (h : Plain H v) (s : Same H H') : isTu H' v = isTu H v := by
  cases h with
  | lst a xs e => rw [isTu_lst e, isTu_lst (s _ _ e)]
  | tup a xs e => rw [isTu_tup e, isTu_tup (s _ _ e)]
  | dK a xs e => rw [isTu_dK e, isTu_dK (s _ _ e)]
  | _ => rfl
theorem BadCor.same {Z : Zs} {H H' : Hp} {v : V} (h : BadCor Z H v) (s : Same H H') : BadCor Z H' v := by
  rcases h with ⟨a, b⟩ | ⟨p, xs, rfl, e, l, x, c⟩
  · exact .inl ⟨a.same s, (isTu_same a s).trans b⟩
  · exact .inr ⟨p, xs, rfl, s _ _ e, l, fun y hy => thI_same (x y hy) s, c⟩
/-- an own error of the class C with o in its field f -/
def ErX (C : Addr) (f : Str) (o : V) (H : Hp) (E : XK) : Prop := ∀ d H', H d = none → Same H H' → H' d = some (.xd [(f, o)]) → E (.ref C) (some d) H'
theorem ErX.same {C : Addr} {f : Str} {o : V} {H H' : Hp} {E : XK} (h : ErX C f o H E) (s : Same H H') : ErX C f o H' E := fun d H2 hd s2 e => h d H2 (s.free hd) (s.trans s2) e
theorem dec_len {n k : Nat} : decide (V.int ((n : Nat) : Int) = V.int (k : Int)) = decide (n = k) := decide_eq_decide.mpr ⟨fun h => by injection h with h; omega, fun h => by rw [h]⟩
abbrev s_is_corner : Stmt := top 24
theorem sc_is_corner : FnScope ["thing", "part"] ["thing"] (defScope s_is_corner) := ⟨rfl, rfl, rfl, by decide +kernel, rfl, by decide +kernel, by decide +kernel⟩

def sp_is_corner (Z : Zs) : Sp := fun vs H Q E =>
  ∃ v, vs = [v] ∧ ((Plain H v ∧ isTu H v = false ∧ Q (.bl false) H) ∨ ∃ p xs, v = .ref p ∧ H p = some (.tup xs) ∧ xs.length ≤ 500 ∧ (∀ x ∈ xs, ThI Z H x) ∧ ∀ H', Same H H' → Q (.bl (isCor xs)) H')
theorem ok_is_corner (T : Txt Z mg) (h_is_integral : Has P w Z.K mg base "is_integral" 1 ["thing"] (sp_is_integral Z)) (D : AtF Z.K mg "is_corner" "is_corner" s_is_corner ["thing"]) : Has P w Z.K mg base "is_corner" 2 ["thing"] (sp_is_corner Z) := by
  refine D.ok sc_is_corner (fun vs H Q E h => ?_) (fun cdv A outer s H vs Q E hr h => ?_)
  · obtain ⟨v, rfl, _⟩ := h
    rfl
  · refine ⟨_, (pss_one (ps_ret (pe_and (pe_callB call_isi rfl T.n_isinstance (by decide +kernel) (pa_cons (pv 0) (pa_cons (pe_bltn (v := .ty "tuple") rfl T.n_tuple (by decide +kernel) rfl) pa_nil))) (pe_and (pe_cmpR op_eq (pe_callB cn_len rfl T.n_len (by decide +kernel) (pa_cons (pv 0) pa_nil)) pe_int (nomark _)) (pe_one (pe_callB (cr_all rfl) rfl T.n_all (by decide +kernel) (pa_cons (pe_lc (own := [("part", 1)]) (g := gName 1) rfl sc_is_corner.nd (pi_tup (pv 0)) (blkOk_by (N := ["thing", "part"]) (sc := defScope s_is_corner) (by decide +kernel)) (fun _ _ _ _ _ => pg_name (i := 1) sc_is_corner.nd rfl (Or.inl rfl)) (fun _ _ _ _ _ => pts_nil) (fun _ _ _ _ _ => (pe_h (E := fun _ => E0) h_is_integral hr pa0 (pa_cons (pv 1) pa_nil)))) pa_nil))))))), ?_⟩
    try simp only [cxOf]
    obtain ⟨v, rfl, ⟨pl, nt, q⟩ | ⟨p, xs, rfl, ha, hl, hx, q⟩⟩ := h
    · obtain ⟨t, ty, _, _, k⟩ := pl.ty (K := Z.K)
      rw [nt] at k
      walk_at "W"
      refine w_isi ty k ?_
      walk_at "W"
      exact q
    · obtain ⟨t, ty, _, _, k⟩ := (Plain.tup p xs ha).ty (K := Z.K)
      rw [isTu_tup ha] at k
      walk_at "W"
      refine w_isi ty k ?_
      walk_at "W"
      refine w_lenT (SqT.of ha) ?_
      walk_at "W"
      rw [show decide (V.int ((xs.length : Nat) : Int) = V.int 4) = decide (xs.length = 4) from dec_len (k := 4)]
      cases e : decide (xs.length = 4)
      · walk_at "W"
        have q1 := q H (Same.refl _)
        unfold isCor at q1
        rw [e] at q1
        exact q1
      · walk_at "W"
        refine k_lcFlags (f := isI) ha hl (fun _ => rfl) (fun x H' hxm s N k => ?_) (fun D H' hD s e2 => ?_)
        · walk_at "W"
          exact ⟨x, rfl, thI_same (hx x hxm) s, k⟩
        · walk_at "W"
          refine w_all (SqL.of e2) ?_
          have q1 := q H' s
          unfold isCor at q1
          rw [e] at q1
          rw [show (xs.map isI).all id = xs.all isI from by rw [List.all_map]; rfl]
          exact q1
abbrev s_check_corner : Stmt := top 25
theorem sc_check_corner : FnScope ["corner"] ["corner"] (defScope s_check_corner) := ⟨rfl, rfl, rfl, by decide +kernel, rfl, by decide +kernel, by decide +kernel⟩

def sp_check_corner (Z : Zs) : Sp := fun vs H Q E =>
  ∃ v, vs = [v] ∧ ((∃ c, CorAt H v c) ∧ (∀ H', Same H H' → Q .non H') ∨ BadCor Z H v ∧ ErX Z.c_BadCorner "corner" v H E)
theorem ok_check_corner (T : Txt Z mg) (h_is_corner : Has P w Z.K mg base "is_corner" 2 ["thing"] (sp_is_corner Z)) (h_BadCorner : HasX P w Z.K mg base "BadCorner" Z.c_BadCorner 1 ["self", "corner"] (sp_BadCorner_init Z)) (D : AtF Z.K mg "check_corner" "check_corner" s_check_corner ["corner"]) : Has P w Z.K mg base "check_corner" 3 ["corner"] (sp_check_corner Z) := by
  refine D.ok sc_check_corner (fun vs H Q E h => ?_) (fun cdv A outer s H vs Q E hr h => ?_)
  · obtain ⟨v, rfl, _⟩ := h
    rfl
  · refine ⟨_, (pss_one (ps_if (pt_not (pt_val (pe_h (E := ED E) h_is_corner hr (paW (takes_of rfl rfl rfl rfl)) (pa_cons (pv 0) pa_nil)))) (pss_one (ps_raise rfl (takes_of rfl rfl rfl rfl) (pm_h T.x_BadCorner h_BadCorner hr (pa_cons (pv 0) pa_nil)))) pss_nil)), ?_⟩
    try simp only [cxOf]
    obtain ⟨v, rfl, ⟨⟨c, p, rfl, hp⟩, q⟩ | ⟨b, er⟩⟩ := h
    · walk_at "W"
      refine ⟨_, rfl, .inr ⟨p, _, rfl, hp, by simp, fun x hx => ?_, fun H' s => ?_⟩⟩
      · simp only [List.mem_cons, List.not_mem_nil, or_false] at hx
        rcases hx with rfl | rfl | rfl | rfl <;> exact (Plain.int _).thI
      · walk_at "W"
        exact q H' s
    · walk_at "W"
      rcases b with ⟨pl, nt⟩ | ⟨p, xs, rfl, hp, hl, hx, ic⟩
      · refine ⟨_, rfl, .inl ⟨pl, nt, ?_⟩⟩
        walk_at "W"
        exact k_mkO fun d H2 hd s4 e4 => er d H2 hd s4 e4
      · refine ⟨_, rfl, .inr ⟨p, xs, rfl, hp, hl, hx, fun H' s => ?_⟩⟩
        rw [ic]
        walk_at "W"
        exact k_mkO fun d H2 hd s4 e4 => er d H2 (s.free hd) (s.trans s4) e4
def C4.plus (c : C4) (k s : Int) : C4 := if k = 0 then ⟨c.a + s, c.b, c.c, c.d⟩ else if k = 1 then ⟨c.a, c.b + s, c.c, c.d⟩ else if k = 2 then ⟨c.a, c.b, c.c + s, c.d⟩ else ⟨c.a, c.b, c.c, c.d + s⟩
def stepC (c : C4) (d m : Int) : C4 := c.plus (d % 4) (if d < 4 then m else -m)
theorem dir_cases {d : Int} (h0 : 0 ≤ d) (h7 : d ≤ 7) : d = 0 ∨ d = 1 ∨ d = 2 ∨ d = 3 ∨ d = 4 ∨ d = 5 ∨ d = 6 ∨ d = 7 := by omega
abbrev s_step : Stmt := top 26
theorem sc_step : FnScope ["corner", "direction", "many", "parts", "at"] ["corner", "direction", "many"] (defScope s_step) := ⟨rfl, rfl, rfl, by decide +kernel, rfl, by decide +kernel, by decide +kernel⟩

def sp_step (Z : Zs) : Sp := fun vs H Q E =>
  ∃ v c d m, vs = [v, .int d, .int m] ∧ CorAt H v c ∧ 0 ≤ d ∧ d ≤ 7 ∧ ∀ v' H', Same H H' → CorAt H' v' (stepC c d m) → Q v' H'
theorem ok_step (T : Txt Z mg)  (D : AtF Z.K mg "step" "step" s_step ["corner", "direction", "many"]) : Has P w Z.K mg base "step" 1 ["corner", "direction", "many"] (sp_step Z) := by
  refine D.ok sc_step (fun vs H Q E h => ?_) (fun cdv A outer s H vs Q E hr h => ?_)
  · obtain ⟨v, c, d, m, rfl, _⟩ := h
    rfl
  · refine ⟨_, (pss_cons (ps_set (i := 3) sc_step.nd rfl (Or.inl rfl) (pe_callTy cn_list rfl T.n_list (by decide +kernel) (pa_cons (pv 0) pa_nil)))
      (pss_cons (ps_set (i := 4) sc_step.nd rfl (Or.inl rfl) (pe_op op_mod (pv 1) pe_int))
      (pss_cons (ps_if (pt_cmpR op_lt (pv 1) pe_int (nomark _)) (pss_one (ps_asg (pe_op op_add (pe_ix ix_seq (pv 3) (pv 4) (fun _ _ => rfl)) (pv 2)) (pg_sub (pv 3) (pv 4) set_list))) (pss_one (ps_asg (pe_op op_sub (pe_ix ix_seq (pv 3) (pv 4) (fun _ _ => rfl)) (pv 2)) (pg_sub (pv 3) (pv 4) set_list))))
      (pss_one (ps_ret (pe_callTy cn_tuple rfl T.n_tuple (by decide +kernel) (pa_cons (pv 3) pa_nil))))))), ?_⟩
    try simp only [cxOf]
    obtain ⟨v, c, d, m, rfl, ⟨p, rfl, hp⟩, h0, h7, q⟩ := h
    walk_at "W"
    refine w_listT (SqT.of hp) fun l H1 hl s1 e1 => ?_
    have fin : ∀ {x y z u : Int} {H2 : Hp}, SameX l H1 H2 → H2 l = some (.lst [.int x, .int y, .int z, .int u]) → (⟨x, y, z, u⟩ : C4) = stepC c d m → rTupOf Z.K [.ref l] H2 Q := fun {x y z u H2} s2 e2 e => by
      refine w_tupL e2 fun t H3 ht s3 e3 => ?_
      have S : Same H H3 := fun b o eb => s3 _ _ (s2 b o (ne_of_none eb hl) (s1 _ _ eb))
      refine q _ H3 S ?_
      rw [← e]
      exact ⟨t, rfl, e3⟩
    walk_at "W"
    rcases dir_cases h0 h7 with rfl | rfl | rfl | rfl | rfl | rfl | rfl | rfl
    all_goals
      walk_at "W"
      refine w_setL e1 rfl fun H2 s2 e2 => ?_
      walk_at "W"
      exact fin s2 e2 (by simp [stepC, C4.plus, Int.sub_eq_add_neg])
def turn1 (c : C4) : C4 := ⟨-c.d, c.a, c.b, c.c⟩
def turnC : Nat → C4 → C4
  | 0, c => c
  | n + 1, c => turn1 (turnC n c)
def mirC (c : C4) : C4 := ⟨c.a, -c.d, -c.c, -c.b⟩
def greC (c : C4) : C4 := ⟨c.a + c.b - c.d, c.b + c.a + c.c, c.c + c.b + c.d, c.d - c.a + c.c⟩
def lesC (c : C4) : C4 := ⟨c.b - c.d - c.a, c.a + c.c - c.b, c.b + c.d - c.c, c.c - c.a - c.d⟩
def spCor (Z : Zs) (f : C4 → C4) : Sp := fun vs H Q E => ∃ v, vs = [v] ∧ ((∃ c, CorAt H v c ∧ ∀ v' H', Same H H' → CorAt H' v' (f c) → Q v' H') ∨ BadCor Z H v ∧ ErX Z.c_BadCorner "corner" v H E)
/-- a corner told otherwise: as a list or a tuple -/
def Four (H : Hp) (p : Addr) (c : C4) : Prop := H p = some (.lst [.int c.a, .int c.b, .int c.c, .int c.d]) ∨ H p = some (.tup [.int c.a, .int c.b, .int c.c, .int c.d])
theorem Four.same {H H' : Hp} {p : Addr} {c : C4} (h : Four H p c) (s : Same H H') : Four H' p c := h.imp (s _ _) (s _ _)
theorem Four.ix {K : PySem.W.Frag} {H : Hp} {p : Addr} {c : C4} {i : Int} {v : V} {Q : VK} (h : Four H p c) (e : atI [V.int c.a, .int c.b, .int c.c, .int c.d] i = some v) (q : Q v H) : rIx K (.ref p) (.int i) H Q := by
  rcases h with h | h
  · exact w_ixL h e q
  · exact w_ixT h e q
theorem w_neSame {K : PySem.W.Frag} {H : Hp} {Q : VK} {x y : V} {c : C4} (h1 : CorAt H x c) (h2 : CorAt H y c) (q : Q (.bl false) H) : rNeD K x y H Q := by
  obtain ⟨p, rfl, e1⟩ := h1
  obtain ⟨p', rfl, e2⟩ := h2
  refine ⟨.tuple [.int c.a, .int c.b, .int c.c, .int c.d], .tuple [.int c.a, .int c.b, .int c.c, .int c.d], .tup (SqT.of e1) (.cons (.int _) (.cons (.int _) (.cons (.int _) (.cons (.int _) .nil)))), .tup (SqT.of e2) (.cons (.int _) (.cons (.int _) (.cons (.int _) (.cons (.int _) .nil)))), rfl, rfl, ?_⟩
  rw [SeqAt.eqv_refl _ rfl]
  exact q
theorem w_eqSame {K : PySem.W.Frag} {H : Hp} {Q : VK} {x y : V} {c : C4} (h1 : CorAt H x c) (h2 : CorAt H y c) (q : Q (.bl true) H) : rEqD K x y H Q := by
  obtain ⟨p, rfl, e1⟩ := h1
  obtain ⟨p', rfl, e2⟩ := h2
  refine ⟨.tuple [.int c.a, .int c.b, .int c.c, .int c.d], .tuple [.int c.a, .int c.b, .int c.c, .int c.d], .tup (SqT.of e1) (.cons (.int _) (.cons (.int _) (.cons (.int _) (.cons (.int _) .nil)))), .tup (SqT.of e2) (.cons (.int _) (.cons (.int _) (.cons (.int _) (.cons (.int _) .nil)))), rfl, rfl, ?_⟩
  rw [SeqAt.eqv_refl _ rfl]
  exact q
def conj (c : C4) : C4 := ⟨c.a, c.d, -c.c, c.b⟩
/-- a point of told parts: the place of c, each number's parts times a number -/
def LedAt (H : Hp) (u : Addr) (c : C4) (n : Nat) : Prop := ∃ p p' s s', H u = some (.tup [.ref p, .ref p']) ∧ T3 H p (2 * c.a * s) ((c.b - c.d) * s) (2 * s) ∧ T3 H p' (2 * c.c * s') ((c.b + c.d) * s') (2 * s') ∧ s ≠ 0 ∧ s' ≠ 0 ∧ Bw n s ∧ Bw n s'
theorem LedAt.same {H H' : Hp} {u : Addr} {c : C4} {n : Nat} (h : LedAt H u c n) (s : Same H H') : LedAt H' u c n := by
  obtain ⟨p, p', s1, s2, a, b, d, e⟩ := h
  exact ⟨p, p', s1, s2, s _ _ a, s _ _ b, s _ _ d, e⟩
theorem LedAt.mono {H : Hp} {u : Addr} {c : C4} {n m : Nat} (h : LedAt H u c n) (l : n ≤ m) : LedAt H u c m := by
  obtain ⟨p, p', s1, s2, a, b, d, e, f, g, k⟩ := h
  exact ⟨p, p', s1, s2, a, b, d, e, f, g.mono l, k.mono l⟩
theorem led_of {H : Hp} {u p p' : Addr} {c : C4} {n : Nat} {s s' t r b t' r' b' : Int} (h : H u = some (.tup [.ref p, .ref p'])) (h1 : T3 H p t r b) (h2 : T3 H p' t' r' b') (e1 : t = 2 * c.a * s) (e2 : r = (c.b - c.d) * s) (e3 : b = 2 * s) (e4 : t' = 2 * c.c * s') (e5 : r' = (c.b + c.d) * s') (e6 : b' = 2 * s')
    (n1 : s ≠ 0) (n2 : s' ≠ 0) (w1 : Bw n s) (w2 : Bw n s') : LedAt H u c n := by
  subst e1 e2 e3 e4 e5 e6
  exact ⟨p, p', s, s', h, h1, h2, n1, n2, w1, w2⟩
theorem led_one {H : Hp} {u p p' : Addr} {c : C4} {t r t' r' : Int} (h : H u = some (.tup [.ref p, .ref p'])) (h1 : T3 H p t r 2) (h2 : T3 H p' t' r' 2) (e1 : t = 2 * c.a) (e2 : r = c.b - c.d) (e4 : t' = 2 * c.c) (e5 : r' = c.b + c.d) : LedAt H u c 1 :=
  led_of h h1 h2 (s := 1) (s' := 1) (by omega) (by omega) (by omega) (by omega) (by omega) (by omega) (by decide) (by decide) Bw.one Bw.one

/-- the place of c, as the laws write it -/
def PlcAt (H : Hp) (u : Addr) (c : C4) : Prop := ∃ p p', H u = some (.tup [.ref p, .ref p']) ∧ T3 H p (2 * c.a) (c.b - c.d) 2 ∧ T3 H p' (2 * c.c) (c.b + c.d) 2
theorem PlcAt.same {H H' : Hp} {u : Addr} {c : C4} (h : PlcAt H u c) (s : Same H H') : PlcAt H' u c := by
  obtain ⟨p, p', a, b, d⟩ := h
  exact ⟨p, p', s _ _ a, s _ _ b, s _ _ d⟩
theorem PlcAt.led {H : Hp} {u : Addr} {c : C4} (h : PlcAt H u c) : LedAt H u c 1 := by
  obtain ⟨p, p', a, b, d⟩ := h
  exact led_one a b d rfl rfl rfl rfl
abbrev s__law_star : Stmt := top 52
theorem sc__law_star : FnScope ["corner"] ["corner"] (defScope s__law_star) := ⟨rfl, rfl, rfl, by decide +kernel, rfl, by decide +kernel, by decide +kernel⟩

def sp__law_star (Z : Zs) : Sp := fun vs H Q E =>
  ∃ p c, vs = [.ref p] ∧ Four H p c ∧ ∀ u H', Same H H' → PlcAt H' u (conj c) → Q (.ref u) H'
theorem ok__law_star (T : Txt Z mg)  (D : AtF Z.K mg "_law_star" "_law_star" s__law_star ["corner"]) : Has P w Z.K mg base "_law_star" 1 ["corner"] (sp__law_star Z) := by
  refine D.ok sc__law_star (fun vs H Q E h => ?_) (fun cdv A outer s H vs Q E hr h => ?_)
  · obtain ⟨p, c, rfl, _⟩ := h
    rfl
  · refine ⟨_, (pss_one (ps_ret (pe_tup (pa_cons (pe_tup (pa_cons (pe_op op_mulS pe_int (pe_ix ix_seq (pv 0) pe_int (fun _ _ => rfl))) (pa_cons (pe_op op_sub (pe_ix ix_seq (pv 0) pe_int (fun _ _ => rfl)) (pe_ix ix_seq (pv 0) pe_int (fun _ _ => rfl))) (pa_cons pe_int pa_nil)))) (pa_cons (pe_tup (pa_cons (pe_op op_mulS (pe_un un_neg pe_int) (pe_ix ix_seq (pv 0) pe_int (fun _ _ => rfl))) (pa_cons (pe_op op_add (pe_ix ix_seq (pv 0) pe_int (fun _ _ => rfl)) (pe_ix ix_seq (pv 0) pe_int (fun _ _ => rfl))) (pa_cons pe_int pa_nil)))) pa_nil))))), ?_⟩
    try simp only [cxOf]
    obtain ⟨p, c, rfl, h, q⟩ := h
    repeat (first | walk_at "s" | refine h.ix rfl ?_)
    refine k_tup rfl fun u1 H1 hu1 s1 e1 => ?_
    have h := h.same s1
    repeat (first | walk_at "s" | refine h.ix rfl ?_)
    refine k_tup rfl fun u2 H2 hu2 s2 e2 => ?_
    walk_at "W"
    refine k_tup rfl fun u3 H3 hu3 s3 e3 => ?_
    have e2 := s3 _ _ e2
    rw [show -2 * c.c = 2 * (conj c).c from by show -2 * c.c = 2 * -c.c; omega, show c.b + c.d = (conj c).b + (conj c).d from by show c.b + c.d = c.d + c.b; omega] at e2
    exact q u3 H3 (s1.trans (s2.trans s3)) ⟨u1, u2, e3, s3 _ _ (s2 _ _ e1), e2⟩
def C4.bw (n : Nat) (c : C4) : Prop := Bw n c.a ∧ Bw n c.b ∧ Bw n c.c ∧ Bw n c.d
theorem len4 {ns : List Int} (h : ns.length = 4) : ∃ a b c d, ns = [a, b, c, d] := by
  match ns, h with
  | [a, b, c, d], _ => exact ⟨a, b, c, d, rfl⟩
theorem k_between' {st sc : Addr} {lo hi : Int} {H : Hp} {Q : VK} {E : XK} (hs : StA H st sc) (h1 : lo ≤ hi) (h2 : (hi - lo + 1).natAbs ≤ 10 ^ 30) (q : ∀ n H', lo ≤ n → n ≤ hi → SameX st H H' → StA H' st sc → Q (.int n) H') : sp__law_between Z [.ref st, .int lo, .int hi] H Q E :=
  ⟨st, sc, lo, hi, rfl, hs, h1, Nat.lt_of_le_of_lt h2 (by decide), q⟩
theorem k_draw' {st sc : Addr} {many : Int} {H : Hp} {Q : VK} {E : XK} (hs : StA H st sc) (h1 : 0 < many) (h2 : Nat.blt many.natAbs 1000000 = true) (q : ∀ n H', 0 ≤ n → n < many → SameX st H H' → StA H' st sc → Q (.int n) H') : sp__law_draw Z [.ref st, .int many] H Q E :=
  ⟨st, sc, many, rfl, hs, h1, Nat.lt_of_lt_of_le (by simpa using h2 : many.natAbs < 1000000) (by decide), q⟩
def unitC (d : Int) : C4 := stepC ⟨0, 0, 0, 0⟩ d 1
theorem unit_bw {d : Int} (h0 : 0 ≤ d) (h7 : d ≤ 7) : C4.bw 1 (unitC d) := by
  have z := Bw.zero
  have o := Bw.one
  have m : Bw 1 (-1) := Bw.one.neg
  rcases dir_cases h0 h7 with rfl | rfl | rfl | rfl | rfl | rfl | rfl | rfl
  · exact ⟨o, z, z, z⟩
  · exact ⟨z, o, z, z⟩
  · exact ⟨z, z, o, z⟩
  · exact ⟨z, z, z, o⟩
  · exact ⟨m, z, z, z⟩
  · exact ⟨z, m, z, z⟩
  · exact ⟨z, z, m, z⟩
  · exact ⟨z, z, z, m⟩
theorem unit_add {d : Int} (h0 : 0 ≤ d) (h7 : d ≤ 7) (c : C4) : (stepC c d 1).a = c.a + (unitC d).a ∧ (stepC c d 1).b = c.b + (unitC d).b ∧ (stepC c d 1).c = c.c + (unitC d).c ∧ (stepC c d 1).d = c.d + (unitC d).d := by
  rcases dir_cases h0 h7 with rfl | rfl | rfl | rfl | rfl | rfl | rfl | rfl <;> (simp [unitC, stepC, C4.plus])
abbrev s__law_corner : Stmt := top 58
theorem sc__law_corner : FnScope ["state", "size", "most", "k"] ["state"] (defScope s__law_corner) := ⟨rfl, rfl, rfl, by decide +kernel, rfl, by decide +kernel, by decide +kernel⟩

def sp__law_corner (Z : Zs) : Sp := fun vs H Q E =>
  ∃ st sc, vs = [.ref st] ∧ StA H st sc ∧ ∀ u (c : C4) H', SameX st H H' → StA H' st sc → H' u = some (.tup [.int c.a, .int c.b, .int c.c, .int c.d]) → C4.bw 84 c → Q (.ref u) H'
theorem ok__law_corner (T : Txt Z mg) (h__law_between : Has P w Z.K mg base "_law_between" 3 ["state", "least", "most"] (sp__law_between Z)) (h__law_draw : Has P w Z.K mg base "_law_draw" 2 ["state", "many"] (sp__law_draw Z)) (D : AtF Z.K mg "_law_corner" "_law_corner" s__law_corner ["state"]) : Has P w Z.K mg base "_law_corner" 4 ["state"] (sp__law_corner Z) := by
  refine D.ok sc__law_corner (fun vs H Q E h => ?_) (fun cdv A outer s H vs Q E hr h => ?_)
  · obtain ⟨st, sc, rfl, _⟩ := h
    rfl
  · refine ⟨_, (pss_cons (ps_set (i := 1) sc__law_corner.nd rfl (Or.inl rfl) (pe_h (E := ED E) h__law_draw hr (paW (takes_of rfl rfl rfl rfl)) (pa_cons (pv 0) (pa_cons pe_int pa_nil))))
      (pss_cons (ps_set (i := 2) sc__law_corner.nd rfl (Or.inr rfl) pe_int)
      (C8.pss_cut (ps_if (pt_cmpR op_eq (pv 1) pe_int (nomark _)) (pss_one (ps_set (i := 2) sc__law_corner.nd rfl (Or.inr rfl) pe_int)) pss_nil)
      (C8.pss_cut (ps_if (pt_cmpR op_eq (pv 1) pe_int (nomark _)) (pss_one (ps_set (i := 2) sc__law_corner.nd rfl (Or.inr rfl) (pe_op op_pow pe_int pe_int))) pss_nil)
      (pss_one (ps_ret (pe_callTy cn_tuple rfl T.n_tuple (by decide +kernel) (pa_cons (pe_lc (own := [("k", 3)]) (g := gName 3) rfl sc__law_corner.nd (pi_range1 rfl T.n_range (pa_cons pe_int pa_nil)) (blkOk_by (N := ["state", "size", "most", "k"]) (sc := defScope s__law_corner) (by decide +kernel)) (fun _ _ _ _ _ => pg_name (i := 3) sc__law_corner.nd rfl (Or.inl rfl)) (fun _ _ _ _ _ => pts_nil) (fun _ _ _ _ _ => (pe_h (E := fun _ => E0) h__law_between hr pa0 (pa_cons (pv 0) (pa_cons (pe_un un_neg (pv 2)) (pa_cons (pv 2) pa_nil)))))) pa_nil)))))))), ?_⟩
    try simp only [cxOf]
    obtain ⟨st, sc, rfl, hs, q⟩ := h
    have e25 : (10 : Int) ^ Int.toNat 25 = 10000000000000000000000000 := by decide
    walk_at "W"
    refine k_draw' hs (by decide) (by decide) fun n H1 n0 n1 x1 hs1 => ?_
    walk_at "W"
    refine w_cut (fun σ' H' => H' = H1 ∧ ∃ m : Int, σ' = [some (.ref st), some (.int n), some (.int m), none] ∧ 0 ≤ m ∧ m ≤ 10 ^ 25) ?_ ?_
    · walk_at "W"
      refine w_ite (fun _ => ?_) (fun _ => ?_)
      · walk_at "W"
        exact ⟨rfl, 1000, rfl, by decide, by decide⟩
      · walk_at "W"
        exact ⟨rfl, 5, rfl, by decide, by decide⟩
    rintro σ' H' ⟨rfl, m, rfl, m0, m1⟩
    walk_at "W"
    refine w_cut (fun σ' H1 => H1 = H' ∧ ∃ m : Int, σ' = [some (.ref st), some (.int n), some (.int m), none] ∧ 0 ≤ m ∧ m ≤ 10 ^ 25) ?_ ?_
    · walk_at "W"
      refine w_ite (fun _ => ?_) (fun _ => ?_)
      · walk_at "W"
        rw [e25]
        exact ⟨rfl, _, rfl, by decide, by decide⟩
      · walk_at "W"
        exact ⟨rfl, m, rfl, m0, m1⟩
    rintro σ' H1 ⟨rfl, m, rfl, m0, m1⟩
    walk_at "W"
    refine k_lcDraw (st := st) (sc := sc) (P := fun z => z.natAbs ≤ 10 ^ 25) (by decide) (by decide) hs1 (fun _ => rfl) (fun z H' hs' _ N k => ?_) (fun D H2 ms e1 e2 e3 e4 hst2 s2 => ?_)
    · walk_at "W"
      exact k_between' hs' (by omega) (by omega) fun n H2 h0 h1 s2 st2 => k n H2 (by omega) s2 st2
    obtain ⟨a, b, c, d, rfl⟩ := len4 e2
    refine w_tupL e1 fun t H3 ht s3 e5 => ?_
    have w : ∀ x ∈ [a, b, c, d], Bw 84 x := fun x hx => bw_of (e3 x hx) (by decide)
    exact q t ⟨a, b, c, d⟩ H3 (x1.trans (s2.trans (Same.x s3))) (hst2.same s3) e5 ⟨w a (by simp), w b (by simp), w c (by simp), w d (by simp)⟩
abbrev s__law_is_corner : Stmt := top 66
theorem sc__law_is_corner : FnScope ["thing", "part"] ["thing"] (defScope s__law_is_corner) := ⟨rfl, rfl, rfl, by decide +kernel, rfl, by decide +kernel, by decide +kernel⟩

def sp__law_is_corner (Z : Zs) : Sp := fun vs H Q E =>
  ∃ v c, vs = [v] ∧ CorAt H v c ∧ Q (.bl true) H
theorem ok__law_is_corner (T : Txt Z mg)  (D : AtF Z.K mg "_law_is_corner" "_law_is_corner" s__law_is_corner ["thing"]) : Has P w Z.K mg base "_law_is_corner" 1 ["thing"] (sp__law_is_corner Z) := by
  refine D.ok sc__law_is_corner (fun vs H Q E h => ?_) (fun cdv A outer s H vs Q E hr h => ?_)
  · obtain ⟨v, c, rfl, _⟩ := h
    rfl
  · refine ⟨_, (pss_cons (ps_if (PW.pt (pw_or (pt_not (pt_val (pe_callB call_isi rfl T.n_isinstance (by decide +kernel) (pa_cons (pv 0) (pa_cons (pe_bltn (v := .ty "tuple") rfl T.n_tuple (by decide +kernel) rfl) pa_nil))))) (pw_or1 (pt_cmpR op_ne (pe_callB cn_len rfl T.n_len (by decide +kernel) (pa_cons (pv 0) pa_nil)) pe_int (nomark _))))) (pss_one (ps_ret pe_bl)) pss_nil)
      (pss_cons (ps_for (passes_of rfl) rfl (pi_tup (pv 0)) (pg_name (i := 1) sc__law_is_corner.nd rfl (Or.inl rfl)) (pss_one (ps_if (PW.pt (pw_or (pt_not (pt_val (pe_callB call_isi rfl T.n_isinstance (by decide +kernel) (pa_cons (pv 1) (pa_cons (pe_bltn (v := .ty "int") rfl T.n_int (by decide +kernel) rfl) pa_nil))))) (pw_or1 (pt_val (pe_callB call_isi rfl T.n_isinstance (by decide +kernel) (pa_cons (pv 1) (pa_cons (pe_bltn (v := .ty "bool") rfl T.n_bool (by decide +kernel) rfl) pa_nil))))))) (pss_one (ps_ret pe_bl)) pss_nil)))
      (pss_one (ps_ret pe_bl)))), ?_⟩
    try simp only [cxOf]
    obtain ⟨v, c, rfl, ⟨p, rfl, hp⟩, q⟩ := h
    obtain ⟨t, ty, _, _, k⟩ := (Plain.tup p _ hp).ty (K := Z.K)
    rw [isTu_tup hp] at k
    walk_at "W"
    refine w_isi ty k ?_
    walk_at "W"
    refine w_lenT (SqT.of hp) ?_
    walk_at "W"
    refine k_forT (fun _ σ' H' => H' = H ∧ ∃ x, σ' = [some (.ref p), x]) hp ⟨rfl, none, rfl⟩ (fun _ _ _ h => by rw [h.1]; exact hp) ?_ ?_
    · rintro i x σ' H' hx ⟨rfl, y, rfl⟩
      obtain ⟨z, rfl⟩ : ∃ z, x = V.int z := by
        rcases i with _ | _ | _ | _ | i
        · cases hx; exact ⟨_, rfl⟩
        · cases hx; exact ⟨_, rfl⟩
        · cases hx; exact ⟨_, rfl⟩
        · cases hx; exact ⟨_, rfl⟩
        · simp at hx
      obtain ⟨ty', hty', k1, k2, _⟩ := (Plain.int (H := H') z).ty (K := Z.K)
      walk_at "W"
      refine w_isi hty' k1 ?_
      walk_at "W"
      refine w_isi hty' k2 ?_
      walk_at "W"
      exact ⟨rfl, _, rfl⟩
    · rintro σ' H' ⟨rfl, y, rfl⟩
      walk_at "W"
      exact q
theorem rd_same {H H' : Hp} {a : Addr} {o : HO} (s : Same H H') (h : Rd H a o) : Rd H' a o := by
  rcases h with h | ⟨x, h⟩
  · exact .inl (s _ _ h)
  · exact .inr ⟨x, s _ _ h⟩
theorem dp_same {K : PySem.W.Frag} {H H' : Hp} (s : Same H H') : (∀ {v : V} {d : PyData}, Dp K H v d → Dp K H' v d) := by
  intro v d h
  induction h using Dp.rec (motive_2 := fun vs ds _ => DpAll K H' vs ds) with
  | non => exact .non
  | bl b => exact .bl b
  | int i => exact .int i
  | str x => exact .str x
  | lst h _ ih => exact .lst (h.imp (rd_same s) id) ih
  | tup h _ ih => exact .tup (h.imp (rd_same s) id) ih
  | nil => exact .nil
  | cons _ _ a b => exact .cons a b
/-- what a corner spoilt is -/
structure Odd4 (Z : Zs) (H : Hp) (v : V) (d : PyData) : Prop where
  bad : BadCor Z H v
  dp : Dp Z.K H v d
  lay : d.canLay0 = true
  dep : d.depth ≤ 5
theorem odd_part {Z : Zs} {H : Hp} {x y z u : V} {p : Addr} {dx dy dz du : PyData} (h : H p = some (.tup [x, y, z, u])) (px : Plain H x) (py : Plain H y) (pz : Plain H z) (pu : Plain H u) (n : ([x, y, z, u].all isI) = false)
    (d1 : Dp Z.K H x dx) (d2 : Dp Z.K H y dy) (d3 : Dp Z.K H z dz) (d4 : Dp Z.K H u du) (l1 : dx.canLay0 = true) (l2 : dy.canLay0 = true) (l3 : dz.canLay0 = true) (l4 : du.canLay0 = true)
    (e1 : dx.depth ≤ 3) (e2 : dy.depth ≤ 3) (e3 : dz.depth ≤ 3) (e4 : du.depth ≤ 3) : Odd4 Z H (.ref p) (.tuple [dx, dy, dz, du]) := by
  refine ⟨.inr ⟨p, _, rfl, h, by simp, fun v hv => ?_, by unfold isCor; rw [n, Bool.and_false]⟩, .tup (SqT.of h) (.cons d1 (.cons d2 (.cons d3 (.cons d4 .nil)))), ?_, ?_⟩
  · simp only [List.mem_cons, List.not_mem_nil, or_false] at hv
    rcases hv with rfl | rfl | rfl | rfl
    · exact px.thI
    · exact py.thI
    · exact pz.thI
    · exact pu.thI
  · simp only [PyData.canLay0, PyData.canLayAll0, l1, l2, l3, l4, Bool.and_self, Bool.and_true]
  · simp only [PyData.depth, PyData.depthAll]
    omega
abbrev s__law_bad_corner : Stmt := top 67
theorem sc__law_bad_corner : FnScope ["state", "corner", "kind", "at", "part"] ["state", "corner"] (defScope s__law_bad_corner) := ⟨rfl, rfl, rfl, by decide +kernel, rfl, by decide +kernel, by decide +kernel⟩

def sp__law_bad_corner (Z : Zs) : Sp := fun vs H Q E =>
  ∃ (st sc p : Addr) (c : C4), vs = [.ref st, .ref p] ∧ StA H st sc ∧ H p = some (.tup [.int c.a, .int c.b, .int c.c, .int c.d]) ∧ ∀ v d H', SameX st H H' → StA H' st sc → Odd4 Z H' v d → (∀ H2, SameX st H' H2 → Odd4 Z H2 v d) → Q v H'
theorem ok__law_bad_corner (T : Txt Z mg) (h__law_draw : Has P w Z.K mg base "_law_draw" 2 ["state", "many"] (sp__law_draw Z)) (D : AtF Z.K mg "_law_bad_corner" "_law_bad_corner" s__law_bad_corner ["state", "corner"]) : Has P w Z.K mg base "_law_bad_corner" 3 ["state", "corner"] (sp__law_bad_corner Z) := by
  refine D.ok sc__law_bad_corner (fun vs H Q E h => ?_) (fun cdv A outer s H vs Q E hr h => ?_)
  · obtain ⟨st, sc, p, c, rfl, _⟩ := h
    rfl
  · refine ⟨_, (pss_cons (ps_set (i := 2) sc__law_bad_corner.nd rfl (Or.inl rfl) (pe_h (E := ED E) h__law_draw hr (paW (takes_of rfl rfl rfl rfl)) (pa_cons (pv 0) (pa_cons pe_int pa_nil))))
      (pss_cons (ps_set (i := 3) sc__law_bad_corner.nd rfl (Or.inl rfl) (pe_h (E := ED E) h__law_draw hr (paW (takes_of rfl rfl rfl rfl)) (pa_cons (pv 0) (pa_cons pe_int pa_nil))))
      (pss_cons (ps_if (pt_cmpR op_eq (pv 2) pe_int (nomark _)) (pss_one (ps_ret (pe_callTy cn_list rfl T.n_list (by decide +kernel) (pa_cons (pv 1) pa_nil)))) pss_nil)
      (pss_cons (ps_if (pt_cmpR op_eq (pv 2) pe_int (nomark _)) (pss_one (ps_ret (pe_slice sl_tupA (pv 1) po_none (po_some pe_int)))) pss_nil)
      (pss_cons (ps_if (pt_cmpR op_eq (pv 2) pe_int (nomark _)) (pss_one (ps_ret (pe_op op_catA (pv 1) (pe_tup (pa_cons pe_int pa_nil))))) pss_nil)
      (pss_cons (ps_if (pt_cmpR op_eq (pv 2) pe_int (nomark _)) (pss_one (ps_ret pe_non)) pss_nil)
      (pss_cons (ps_set (i := 4) sc__law_bad_corner.nd rfl (Or.inl rfl) (pe_ix ix_seq (pe_lst (pa_cons pe_bl (pa_cons pe_str (pa_cons pe_non (pa_cons (pe_tup (pa_cons pe_int pa_nil)) pa_nil))))) (pe_op op_sub (pv 2) pe_int) (fun _ _ => rfl)))
      (pss_one (ps_ret (pe_op op_catA (pe_op op_catA (pe_slice sl_tupA (pv 1) po_none (po_some (pv 3))) (pe_tup (pa_cons (pv 4) pa_nil))) (pe_slice sl_tupA (pv 1) (po_some (pe_op op_add (pv 3) pe_int)) po_none))))))))))), ?_⟩
    try simp only [cxOf]
    obtain ⟨st, sc, p, c, rfl, hs, hp, q⟩ := h
    walk_at "W"
    refine k_draw' hs (by decide) (by decide) fun kd H1 n0 n1 x1 hs1 => ?_
    walk_at "W"
    refine k_draw' hs1 (by decide) (by decide) fun i H2 i0 i1 x2 hs2 => ?_
    have X := x1.trans x2
    have hp := x2 _ _ (hs1.ne (x1 _ _ (hs.ne hp (by intro xs z; cases z)) hp) (by intro xs z; cases z)) (x1 _ _ (hs.ne hp (by intro xs z; cases z)) hp)
    walk_at "W"
    refine w_ite (fun _ => ?_) (fun _ => ?_)
    · walk_at "W"
      refine w_listT (SqT.of hp) fun l H3 hl s3 e3 => ?_
      have mk : ∀ {HH : Hp}, HH l = some (.lst [.int c.a, .int c.b, .int c.c, .int c.d]) → Odd4 Z HH (.ref l) (.list [.int c.a, .int c.b, .int c.c, .int c.d]) := fun e3 => ⟨.inl ⟨.lst l _ e3, isTu_lst e3⟩, .lst (SqL.of e3) (.cons (.int _) (.cons (.int _) (.cons (.int _) (.cons (.int _) .nil)))), rfl, Nat.le_of_ble_eq_true rfl⟩
      exact q _ _ H3 (X.trans (Same.x s3)) (hs2.same s3) (mk e3) fun H4 x4 => mk (x4 _ _ (hs2.new hl).1 e3)
    walk_at "W"
    refine w_ite (fun _ => ?_) (fun _ => ?_)
    · walk_at "W"
      refine k_slA hp fun t H3 s3 e3 => ?_
      have e3 : H3 t = some (.tup [.int c.a, .int c.b, .int c.c]) := e3
      have mk : ∀ {HH : Hp}, HH t = some (.tup [.int c.a, .int c.b, .int c.c]) → Odd4 Z HH (.ref t) (.tuple [.int c.a, .int c.b, .int c.c]) := fun e3 => by
        refine ⟨.inr ⟨t, _, rfl, e3, by simp, fun v hv => ?_, rfl⟩, .tup (SqT.of e3) (.cons (.int _) (.cons (.int _) (.cons (.int _) .nil))), rfl, Nat.le_of_ble_eq_true rfl⟩
        simp only [List.mem_cons, List.not_mem_nil, or_false] at hv
        rcases hv with rfl | rfl | rfl <;> exact (Plain.int _).thI
      exact q _ _ H3 (X.trans (Same.x s3)) (hs2.same s3) (mk e3) fun H4 x4 => mk ((Kps.st (hs2.same s3) x4).tup e3)
    walk_at "W"
    refine w_ite (fun _ => ?_) (fun _ => ?_)
    · walk_at "W"
      refine k_tup rfl fun t H3 ht s3 e3 => ?_
      refine w_catA (s3 _ _ hp) e3 rfl fun t2 H4 s4 e4 => ?_
      have e4 : H4 t2 = some (.tup [.int c.a, .int c.b, .int c.c, .int c.d, .int 0]) := e4
      have mk : ∀ {HH : Hp}, HH t2 = some (.tup [.int c.a, .int c.b, .int c.c, .int c.d, .int 0]) → Odd4 Z HH (.ref t2) (.tuple [.int c.a, .int c.b, .int c.c, .int c.d, .int 0]) := fun e4 => by
        refine ⟨.inr ⟨t2, _, rfl, e4, by simp, fun v hv => ?_, rfl⟩, .tup (SqT.of e4) (.cons (.int _) (.cons (.int _) (.cons (.int _) (.cons (.int _) (.cons (.int _) .nil))))), rfl, Nat.le_of_ble_eq_true rfl⟩
        simp only [List.mem_cons, List.not_mem_nil, or_false] at hv
        rcases hv with rfl | rfl | rfl | rfl | rfl <;> exact (Plain.int _).thI
      exact q _ _ H4 (X.trans (Same.x (s3.trans s4))) (hs2.same (s3.trans s4)) (mk e4) fun H5 x5 => mk ((Kps.st (hs2.same (s3.trans s4)) x5).tup e4)
    walk_at "W"
    refine w_ite (fun _ => ?_) (fun n3 => ?_)
    · walk_at "W"
      exact q _ _ H2 X hs2 ⟨.inl ⟨.non, rfl⟩, .non, rfl, by decide⟩ fun _ _ => ⟨.inl ⟨.non, rfl⟩, .non, rfl, by decide⟩
    have hk : kd = 4 ∨ kd = 5 ∨ kd = 6 ∨ kd = 7 := by
      have f : ∀ {x y : Int}, ¬ (V.int x = V.int y) → x ≠ y := fun h z => h (by rw [z])
      have := f n3
      rename_i h1 h2 h3
      have := f h1
      have := f h2
      have := f h3
      omega
    walk_at "W"
    refine k_tup rfl fun u1 H3 hu1 s3 e3 => ?_
    walk_at "W"
    refine k_lst rfl fun l H4 hl s4 e4 => ?_
    obtain ⟨v, dv, hv, pv, nv, dp, ly, de⟩ : ∃ v dv, atI [V.bl true, .str "0", .non, .ref u1] (kd - 4) = some v ∧ (∀ HH, Kps H4 HH → Plain HH v) ∧ isI v = false ∧ (∀ HH, Kps H4 HH → Dp Z.K HH v dv) ∧ dv.canLay0 = true ∧ dv.depth ≤ 3 := by
      rcases hk with rfl | rfl | rfl | rfl
      · exact ⟨_, _, rfl, fun _ _ => .bl _, rfl, fun _ _ => .bl _, rfl, by decide⟩
      · exact ⟨_, _, rfl, fun _ _ => .str _, rfl, fun _ _ => .str _, by decide +kernel, by decide⟩
      · exact ⟨_, _, rfl, fun _ _ => .non, rfl, fun _ _ => .non, rfl, by decide⟩
      · exact ⟨_, _, rfl, fun _ kk => .tup u1 _ (kk.tup (s4 _ _ e3)), rfl, fun _ kk => .tup (SqT.of (kk.tup (s4 _ _ e3))) (.cons (.int _) .nil), rfl, by decide⟩
    walk_at "W"
    refine w_ixL e4 hv ?_
    walk_at "W"
    have hp4 := s4 _ _ (s3 _ _ hp)
    have S4 := s3.trans s4
    refine k_slA hp4 fun t1 H5 s5 f5 => ?_
    walk_at "W"
    refine k_tup rfl fun t2 H6 ht2 s6 f6 => ?_
    have iI : ∀ {HH : Hp} (z : Int), Plain HH (.int z) := fun z => .int z
    have dI : ∀ {HH : Hp} (z : Int), Dp Z.K HH (.int z) (.int z) := fun z => .int z
    have fin : ∀ {t : Addr} {H' : Hp} {x y z u : V}, Same H4 H' → H' t = some (.tup [x, y, z, u]) → (([x, y, z, u] = [v, .int c.b, .int c.c, .int c.d]) ∨ ([x, y, z, u] = [.int c.a, v, .int c.c, .int c.d]) ∨ ([x, y, z, u] = [.int c.a, .int c.b, v, .int c.d]) ∨ ([x, y, z, u] = [.int c.a, .int c.b, .int c.c, v])) → Q (.ref t) H' := fun {t H' x y z u} s e o => by
      have S : Same H2 H' := S4.trans s
      have z3 : ∀ k : Int, (PyData.int k).depth ≤ 3 := fun k => by show 0 ≤ 3; decide
      obtain ⟨d, hd⟩ : ∃ d, ∀ HH, Kps H' HH → Odd4 Z HH (.ref t) d := by
        have k4 : ∀ {HH : Hp}, Kps H' HH → Kps H4 HH := fun kk => (Kps.same s).trans kk
        rcases o with o | o | o | o <;> (injection o with o1 o; injection o with o2 o; injection o with o3 o; injection o with o4 o; subst o1 o2 o3 o4)
        · exact ⟨_, fun HH kk => odd_part (kk.tup e) (pv _ (k4 kk)) (iI _) (iI _) (iI _) (by simp [nv]) (dp _ (k4 kk)) (dI _) (dI _) (dI _) ly rfl rfl rfl de (z3 _) (z3 _) (z3 _)⟩
        · exact ⟨_, fun HH kk => odd_part (kk.tup e) (iI _) (pv _ (k4 kk)) (iI _) (iI _) (by simp [nv]) (dI _) (dp _ (k4 kk)) (dI _) (dI _) rfl ly rfl rfl (z3 _) de (z3 _) (z3 _)⟩
        · exact ⟨_, fun HH kk => odd_part (kk.tup e) (iI _) (iI _) (pv _ (k4 kk)) (iI _) (by simp [nv]) (dI _) (dI _) (dp _ (k4 kk)) (dI _) rfl rfl ly rfl (z3 _) (z3 _) de (z3 _)⟩
        · exact ⟨_, fun HH kk => odd_part (kk.tup e) (iI _) (iI _) (iI _) (pv _ (k4 kk)) (by simp [nv]) (dI _) (dI _) (dI _) (dp _ (k4 kk)) rfl rfl rfl ly (z3 _) (z3 _) (z3 _) de⟩
      exact q _ d H' (X.trans (Same.x S)) (hs2.same S) (hd _ (Kps.refl _)) fun H2 x2 => hd _ (Kps.st (hs2.same S) x2)
    have hi : i = 0 ∨ i = 1 ∨ i = 2 ∨ i = 3 := by omega
    rcases hi with rfl | rfl | rfl | rfl
    · have f5 : H5 t1 = some (.tup []) := f5
      refine w_catA (s6 _ _ f5) f6 rfl fun t3 H7 s7 f7 => ?_
      walk_at "W"
      refine k_slA (s7 _ _ (s6 _ _ (s5 _ _ hp4))) fun t4 H8 s8 f8 => ?_
      refine w_catA (s8 _ _ f7) f8 rfl fun t5 H9 s9 f9 => ?_
      exact fin (s5.trans (s6.trans (s7.trans (s8.trans s9)))) f9 (.inl rfl)
    · have f5 : H5 t1 = some (.tup [.int c.a]) := f5
      refine w_catA (s6 _ _ f5) f6 rfl fun t3 H7 s7 f7 => ?_
      walk_at "W"
      refine k_slA (s7 _ _ (s6 _ _ (s5 _ _ hp4))) fun t4 H8 s8 f8 => ?_
      refine w_catA (s8 _ _ f7) f8 rfl fun t5 H9 s9 f9 => ?_
      exact fin (s5.trans (s6.trans (s7.trans (s8.trans s9)))) f9 (.inr (.inl rfl))
    · have f5 : H5 t1 = some (.tup [.int c.a, .int c.b]) := f5
      refine w_catA (s6 _ _ f5) f6 rfl fun t3 H7 s7 f7 => ?_
      walk_at "W"
      refine k_slA (s7 _ _ (s6 _ _ (s5 _ _ hp4))) fun t4 H8 s8 f8 => ?_
      refine w_catA (s8 _ _ f7) f8 rfl fun t5 H9 s9 f9 => ?_
      exact fin (s5.trans (s6.trans (s7.trans (s8.trans s9)))) f9 (.inr (.inr (.inl rfl)))
    · have f5 : H5 t1 = some (.tup [.int c.a, .int c.b, .int c.c]) := f5
      refine w_catA (s6 _ _ f5) f6 rfl fun t3 H7 s7 f7 => ?_
      walk_at "W"
      refine k_slA (s7 _ _ (s6 _ _ (s5 _ _ hp4))) fun t4 H8 s8 f8 => ?_
      refine w_catA (s8 _ _ f7) f8 rfl fun t5 H9 s9 f9 => ?_
      exact fin (s5.trans (s6.trans (s7.trans (s8.trans s9)))) f9 (.inr (.inr (.inr rfl)))
-- needs W10
local macro_rules | `(tactic| walk_at "s") => `(tactic| first | with_reducible refine L2.My.w_augS ?_ | with_reducible refine L2.My.w_isN ?_)
/-- a thing that is no point -/
def NoPt (Z : Zs) (H : Hp) (v : V) : Prop := (Plain H v ∧ isTu H v = false) ∨ (∃ p xs, v = .ref p ∧ H p = some (.tup xs) ∧ xs.length ≠ 2) ∨ ∃ p x y, v = .ref p ∧ H p = some (.tup [x, y]) ∧ Th Z.c_Root H x ∧ Th Z.c_Root H y ∧ (isN Z.c_Root H x && isN Z.c_Root H y) = false
theorem NoPt.same {Z : Zs} {H H' : Hp} {v : V} (h : NoPt Z H v) (s : Same H H') : NoPt Z H' v := by
  rcases h with ⟨pl, nt⟩ | ⟨p, xs, rfl, e, n⟩ | ⟨p, x, y, rfl, e, hx, hy, n⟩
  · exact .inl ⟨pl.same s, (isTu_same pl s).trans nt⟩
  · exact .inr (.inl ⟨p, xs, rfl, s _ _ e, n⟩)
  · exact .inr (.inr ⟨p, x, y, rfl, s _ _ e, hx.same s, hy.same s, by rw [hx.isN_same s, hy.isN_same s]; exact n⟩)
abbrev s_is_point : Stmt := top 21
theorem sc_is_point : FnScope ["thing"] ["thing"] (defScope s_is_point) := ⟨rfl, rfl, rfl, by decide +kernel, rfl, by decide +kernel, by decide +kernel⟩

def sp_is_point (Z : Zs) : Sp := fun vs H Q E =>
  ∃ v, vs = [v] ∧ (NoPt Z H v ∧ Q (.bl false) H ∨ ∃ p x y, v = .ref p ∧ H p = some (.tup [x, y]) ∧ (∃ t r b, NumAt Z.c_Root H x t r b) ∧ (∃ t r b, NumAt Z.c_Root H y t r b) ∧ Q (.bl true) H)
theorem ok_is_point (T : Txt Z mg) (h_is_number : Has P w Z.K mg base "is_number" 2 ["thing"] (sp_is_number Z)) (D : AtF Z.K mg "is_point" "is_point" s_is_point ["thing"]) : Has P w Z.K mg base "is_point" 3 ["thing"] (sp_is_point Z) := by
  refine D.ok sc_is_point (fun vs H Q E h => ?_) (fun cdv A outer s H vs Q E hr h => ?_)
  · obtain ⟨v, rfl, _⟩ := h
    rfl
  · refine ⟨_, (pss_one (ps_ret (pe_and (pe_callB call_isi rfl T.n_isinstance (by decide +kernel) (pa_cons (pv 0) (pa_cons (pe_bltn (v := .ty "tuple") rfl T.n_tuple (by decide +kernel) rfl) pa_nil))) (pe_and (pe_cmpR op_eq (pe_callB cn_len rfl T.n_len (by decide +kernel) (pa_cons (pv 0) pa_nil)) pe_int (nomark _)) (pe_and (pe_h (E := ED E) h_is_number hr (paW (takes_of rfl rfl rfl rfl)) (pa_cons (pe_ix ix_seq (pv 0) pe_int (fun _ _ => rfl)) pa_nil)) (pe_one (pe_h (E := ED E) h_is_number hr (paW (takes_of rfl rfl rfl rfl)) (pa_cons (pe_ix ix_seq (pv 0) pe_int (fun _ _ => rfl)) pa_nil)))))))), ?_⟩
    try simp only [cxOf]
    obtain ⟨v, rfl, hh⟩ := h
    rcases hh with ⟨⟨pl, nt⟩ | ⟨p, xs, rfl, hp, ne⟩ | ⟨p, x, y, rfl, hp, hx, hy, n⟩, q⟩ | ⟨p, x, y, rfl, hp, ⟨t, r, b, hx⟩, ⟨t', r', b', hy⟩, q⟩
    · obtain ⟨ty, hty, _, _, k⟩ := pl.ty (K := Z.K)
      rw [nt] at k
      walk_at "W"
      refine w_isi hty k ?_
      walk_at "W"
      exact q
    · obtain ⟨ty, hty, _, _, k⟩ := (Plain.tup p _ hp).ty (K := Z.K)
      rw [isTu_tup hp] at k
      walk_at "W"
      refine w_isi hty k ?_
      walk_at "W"
      refine w_lenT (SqT.of hp) ?_
      walk_at "W"
      rw [show decide (V.int ((xs.length : Nat) : Int) = V.int 2) = false from (dec_len (k := 2)).trans (decide_eq_false ne)]
      walk_at "W"
      exact q
    · obtain ⟨ty, hty, _, _, k⟩ := (Plain.tup p _ hp).ty (K := Z.K)
      rw [isTu_tup hp] at k
      walk_at "W"
      refine w_isi hty k ?_
      walk_at "W"
      refine w_lenT (SqT.of hp) ?_
      walk_at "W"
      refine ⟨x, rfl, hx, ?_⟩
      walk_at "W"
      cases e : isN Z.c_Root H x
      · walk_at "W"
        exact q
      · walk_at "W"
        refine ⟨y, rfl, hy, ?_⟩
        rw [e, Bool.true_and] at n
        rw [n]
        walk_at "W"
        exact q
    · obtain ⟨ty, hty, _, _, k⟩ := (Plain.tup p _ hp).ty (K := Z.K)
      rw [isTu_tup hp] at k
      walk_at "W"
      refine w_isi hty k ?_
      walk_at "W"
      refine w_lenT (SqT.of hp) ?_
      walk_at "W"
      refine ⟨x, rfl, hx.th, ?_⟩
      rw [hx.isN]
      walk_at "W"
      refine ⟨y, rfl, hy.th, ?_⟩
      rw [hy.isN]
      walk_at "W"
      exact q
abbrev s_as_roots : Stmt := top 22
theorem sc_as_roots : FnScope ["point"] ["point"] (defScope s_as_roots) := ⟨rfl, rfl, rfl, by decide +kernel, rfl, by decide +kernel, by decide +kernel⟩

def sp_as_roots (Z : Zs) : Sp := fun vs H Q E =>
  ∃ p x y t r b t' r' b', vs = [.ref p] ∧ H p = some (.tup [x, y]) ∧ NumAt Z.c_Root H x t r b ∧ NumAt Z.c_Root H y t' r' b' ∧ ∀ u vx vy H', Same H H' → H' u = some (.tup [vx, vy]) → RootAt Z.c_Root H' vx t r b → RootAt Z.c_Root H' vy t' r' b' → Q (.ref u) H'
theorem ok_as_roots (T : Txt Z mg) (h_as_root : Has P w Z.K mg base "as_root" 5 ["number"] (sp_as_root Z)) (D : AtF Z.K mg "as_roots" "as_roots" s_as_roots ["point"]) : Has P w Z.K mg base "as_roots" 6 ["point"] (sp_as_roots Z) := by
  refine D.ok sc_as_roots (fun vs H Q E h => ?_) (fun cdv A outer s H vs Q E hr h => ?_)
  · obtain ⟨p, x, y, t, r, b, t', r', b', rfl, _⟩ := h
    rfl
  · refine ⟨_, (pss_one (ps_ret (pe_tup (pa_cons (pe_h (E := ED E) h_as_root hr (paW (takes_of rfl rfl rfl rfl)) (pa_cons (pe_ix ix_seq (pv 0) pe_int (fun _ _ => rfl)) pa_nil)) (pa_cons (pe_h (E := ED E) h_as_root hr (paW (takes_of rfl rfl rfl rfl)) (pa_cons (pe_ix ix_seq (pv 0) pe_int (fun _ _ => rfl)) pa_nil)) pa_nil))))), ?_⟩
    try simp only [cxOf]
    obtain ⟨p, x, y, t, r, b, t', r', b', rfl, hp, hx, hy, q⟩ := h
    walk_at "W"
    refine ⟨x, t, r, b, rfl, hx, fun vx H1 s1 h1 => ?_⟩
    have hp1 := s1 _ _ hp
    walk_at "W"
    refine ⟨y, t', r', b', rfl, hy.same s1, fun vy H2 s2 h2 => ?_⟩
    walk_at "W"
    exact k_tup rfl fun u H3 hu s3 e3 => q u vx vy H3 (s1.trans (s2.trans s3)) e3 ((h1.same s2).same s3) (h2.same s3)
/-- a point of Roots, of told numbers -/
def PtLow (c : Addr) (H : Hp) (u : Addr) (t r b t' r' b' : Int) : Prop := ∃ x y, H u = some (.tup [x, y]) ∧ LowAt c H x t r b ∧ LowAt c H y t' r' b'
theorem LowAt.same {c : Addr} {H H' : Hp} {v : V} {t r b : Int} (h : LowAt c H v t r b) (s : Same H H') : LowAt c H' v t r b := RootAt.same h s
theorem PtLow.same {c : Addr} {H H' : Hp} {u : Addr} {t r b t' r' b' : Int} (h : PtLow c H u t r b t' r' b') (s : Same H H') : PtLow c H' u t r b t' r' b' := by
  obtain ⟨x, y, a, b, d⟩ := h
  exact ⟨x, y, s _ _ a, b.same s, d.same s⟩
def spPl (Z : Zs) (f : C4 → C4) : Sp := fun vs H Q E => ∃ v, vs = [v] ∧ ((∃ c, CorAt H v c ∧ ∀ u H', Same H H' → PtLow Z.c_Root H' u (2 * (f c).a) ((f c).b - (f c).d) 2 (2 * (f c).c) ((f c).b + (f c).d) 2 → Q (.ref u) H') ∨ BadCor Z H v ∧ ErX Z.c_BadCorner "corner" v H E)
theorem emod_iff {x b : Int} (hb : b ≠ 0) : x % b = 0 ↔ ∃ k, x = k * b := ⟨fun h => ⟨x / b, by have := Int.emod_add_mul_ediv x b; rw [h, Int.zero_add, Int.mul_comm] at this; exact this.symm⟩, fun ⟨k, e⟩ => by rw [e]; exact Int.mul_emod_left k b⟩
theorem ediv_of {x b k : Int} (hb : b ≠ 0) (h : x = k * b) : x / b = k := by rw [h]; exact Int.mul_ediv_cancel k hb
/-- a whole number of ones and a whole number of halves of r -/
def Halves (t r b w h : Int) : Prop := t = w * b ∧ 2 * r = h * b
/-- a corner's place has these two numbers -/
def Fit (t r b t' r' b' : Int) (c : C4) : Prop := Halves t r b c.a (c.b - c.d) ∧ Halves t' r' b' c.c (c.b + c.d)
def spAt (Z : Zs) (f : C4 → C4) : Sp := fun vs H Q E => ∃ v, vs = [v] ∧ (NoPt Z H v ∧ ErX Z.c_BadPoint "point" v H E ∨ ∃ p x y t r b t' r' b', v = .ref p ∧ H p = some (.tup [x, y]) ∧ NumAt Z.c_Root H x t r b ∧ NumAt Z.c_Root H y t' r' b' ∧ 0 < b ∧ 0 < b' ∧ Bw 1000 b ∧ Bw 1000 b' ∧
  (∀ H', Same H H' → (∀ c, ¬ Fit t r b t' r' b' (f c)) → Q .non H') ∧ ∀ c v H', Same H H' → Fit t r b t' r' b' (f c) → CorAt H' v c → Q v H')
theorem int0 {x y : Int} : (V.int x = V.int y) ↔ x = y := ⟨fun h => by injection h, fun h => by rw [h]⟩
theorem low_whole {t b w : Int} (hb : b ≠ 0) (e : t = w * b) : lowT t 0 b = w ∧ lowR t 0 b = 0 ∧ lowB t 0 b = 1 := by
  have h := ((low_is (t := t) (r := 0) hb).whole w).mpr ⟨rfl, e⟩
  exact ⟨h.2.2, h.1, h.2.1⟩
abbrev s__law_given : Stmt := top 60
theorem sc__law_given : FnScope ["number"] ["number"] (defScope s__law_given) := ⟨rfl, rfl, rfl, by decide +kernel, rfl, by decide +kernel, by decide +kernel⟩

def sp__law_given (Z : Zs) : Sp := fun vs H Q E =>
  ∃ p t r b, vs = [.ref p] ∧ T3 H p t r b ∧ 0 < b ∧ Bw 1000 b ∧ ∀ v H', Same H H' → NumAt Z.c_Root H' v (lowT t r b) (lowR t r b) (lowB t r b) → Q v H'
theorem ok__law_given (T : Txt Z mg) (h_Root : HasC P w Z.K mg base "Root" Z.c_Root 3 ["self", "top", "root", "bottom"] (sp_Root_init Z)) (D : AtF Z.K mg "_law_given" "_law_given" s__law_given ["number"]) : Has P w Z.K mg base "_law_given" 5 ["number"] (sp__law_given Z) := by
  refine D.ok sc__law_given (fun vs H Q E h => ?_) (fun cdv A outer s H vs Q E hr h => ?_)
  · obtain ⟨p, t, r, b, rfl, _⟩ := h
    rfl
  · refine ⟨_, (pss_cons (ps_if (PW.pt (pw_and (pt_cmpR op_eq (pe_ix ix_seq (pv 0) pe_int (fun _ _ => rfl)) pe_int (nomark _)) (pw_and1 (pt_cmpR op_eq (pe_op op_mod (pe_callTy cn_int rfl T.n_int (by decide +kernel) (pa_cons (pe_ix ix_seq (pv 0) pe_int (fun _ _ => rfl)) pa_nil)) (pe_ix ix_seq (pv 0) pe_int (fun _ _ => rfl))) pe_int (nomark _))))) (pss_one (ps_ret (pe_op op_fdivW (pe_ix ix_seq (pv 0) pe_int (fun _ _ => rfl)) (pe_ix ix_seq (pv 0) pe_int (fun _ _ => rfl))))) pss_nil)
      (pss_one (ps_ret (pe_hc (E := ED E) h_Root hr (paW (takes_of rfl rfl rfl rfl)) (pa_cons (pe_ix ix_seq (pv 0) pe_int (fun _ _ => rfl)) (pa_cons (pe_ix ix_seq (pv 0) pe_int (fun _ _ => rfl)) (pa_cons (pe_ix ix_seq (pv 0) pe_int (fun _ _ => rfl)) pa_nil))))))), ?_⟩
    try simp only [cxOf]
    obtain ⟨p, t, r, b, rfl, h1, pb, wb, q⟩ := h
    unfold T3 at h1
    have hbn : b ≠ 0 := by omega
    have hdw : ∀ x : Int, CDivW x b := fun x => wide_div pb (wb.bd (by decide)) (by decide) (by decide)
    have made : MkC Z.c_Root (sp_Root_init Z) (ED E [some (.ref p)]) [.int t, .int r, .int b] H Q := k_mkRootI hbn (wb.bd (by decide)) fun v H1 s1 h1 => q v H1 s1 (.inl h1)
    walk_at "W"
    by_cases c1 : r = 0
    · rw [decide_eq_true (int0.mpr c1)]
      walk_at "W"
      by_cases c2 : t % b = 0
      · rw [decide_eq_true (int0.mpr c2)]
        obtain ⟨w, ew⟩ := (emod_iff hbn).mp c2
        walk_at "W"
        refine w_I (hdw _) ?_
        rw [ediv_of hbn ew]
        subst c1
        obtain ⟨a1, a2, a3⟩ := low_whole hbn ew
        exact q _ H (Same.refl _) (.inr ⟨w, rfl, a1, a2, a3⟩)
      · rw [decide_eq_false (fun z => c2 (int0.mp z))]
        walk_at "W"
        exact made
    · rw [decide_eq_false (fun z => c1 (int0.mp z))]
      walk_at "W"
      exact made
-- needs W11
local macro_rules | `(tactic| walk_at "s") => `(tactic| first | with_reducible refine L2.My.w_forEn ?_ | with_reducible refine L2.My.w_lcZT ?_ | with_reducible refine L2.My.w_notB ?_)
theorem vint0 {x y : Int} : (V.int x = V.int y) ↔ x = y := ⟨fun h => by injection h, fun h => by rw [h]⟩
/-- a number barred by an even direction, by an odd one -/
def EvB (t r b : Int) : Prop := (∃ k, 2 * t = (2 * k + 1) * b) ∧ ∃ m, 2 * r = m * b
def OdB (t r b : Int) : Prop := (∃ m, t = m * b) ∧ ∃ k, 2 * r = (2 * k + 1) * b
theorem ev_scale {t r b s : Int} (hs : s ≠ 0) : EvB (t * s) (r * s) (b * s) ↔ EvB t r b := by
  constructor
  · rintro ⟨⟨k, h1⟩, m, h2⟩
    exact ⟨⟨k, Int.eq_of_mul_eq_mul_right hs (by rw [Int.mul_assoc, h1, Int.mul_assoc])⟩, m, Int.eq_of_mul_eq_mul_right hs (by rw [Int.mul_assoc, h2, Int.mul_assoc])⟩
  · rintro ⟨⟨k, h1⟩, m, h2⟩
    exact ⟨⟨k, by rw [← Int.mul_assoc, h1, Int.mul_assoc]⟩, m, by rw [← Int.mul_assoc, h2, Int.mul_assoc]⟩
theorem od_scale {t r b s : Int} (hs : s ≠ 0) : OdB (t * s) (r * s) (b * s) ↔ OdB t r b := by
  constructor
  · rintro ⟨⟨m, h1⟩, k, h2⟩
    exact ⟨⟨m, Int.eq_of_mul_eq_mul_right hs (by rw [h1, Int.mul_assoc])⟩, k, Int.eq_of_mul_eq_mul_right hs (by rw [Int.mul_assoc, h2, Int.mul_assoc])⟩
  · rintro ⟨⟨m, h1⟩, k, h2⟩
    exact ⟨⟨m, by rw [h1, Int.mul_assoc]⟩, k, by rw [← Int.mul_assoc, h2, Int.mul_assoc]⟩
theorem ev_low {t r b : Int} (hb : b ≠ 0) : EvB (lowT t r b) (lowR t r b) (lowB t r b) ↔ EvB t r b := by
  obtain ⟨s, hs, e1, e2, e3⟩ := (low_is (t := t) (r := r) hb).s
  have k := ev_scale (t := lowT t r b) (r := lowR t r b) (b := lowB t r b) hs
  rw [← e1, ← e2, ← e3] at k
  exact k.symm
theorem od_low {t r b : Int} (hb : b ≠ 0) : OdB (lowT t r b) (lowR t r b) (lowB t r b) ↔ OdB t r b := by
  obtain ⟨s, hs, e1, e2, e3⟩ := (low_is (t := t) (r := r) hb).s
  have k := od_scale (t := lowT t r b) (r := lowR t r b) (b := lowB t r b) hs
  rw [← e1, ← e2, ← e3] at k
  exact k.symm
noncomputable def decB (p : Prop) : Bool := @decide p (Classical.propDecidable p)
theorem decB_t {p : Prop} (h : p) : decB p = true := @decide_eq_true p (Classical.propDecidable p) h
theorem decB_f {p : Prop} (h : ¬ p) : decB p = false := @decide_eq_false p (Classical.propDecidable p) h
theorem half_iff {t b : Int} (hb : b ≠ 0) : (2 * t - b) % (2 * b) = 0 ↔ ∃ k, 2 * t = (2 * k + 1) * b := by
  rw [emod_iff (by omega)]
  constructor
  · rintro ⟨k, h⟩
    exact ⟨k, by rw [Int.add_mul, Int.one_mul]; have : k * (2 * b) = 2 * k * b := by rw [← Int.mul_assoc, Int.mul_comm k 2]
                 omega⟩
  · rintro ⟨k, h⟩
    exact ⟨k, by rw [Int.add_mul, Int.one_mul] at h; have : k * (2 * b) = 2 * k * b := by rw [← Int.mul_assoc, Int.mul_comm k 2]
                 omega⟩
abbrev s_check_point : Stmt := top 37
theorem sc_check_point : FnScope ["point"] ["point"] (defScope s_check_point) := ⟨rfl, rfl, rfl, by decide +kernel, rfl, by decide +kernel, by decide +kernel⟩

def sp_check_point (Z : Zs) : Sp := fun vs H Q E =>
  ∃ v, vs = [v] ∧ (NoPt Z H v ∧ ErX Z.c_BadPoint "point" v H E ∨ ∃ p x y, v = .ref p ∧ H p = some (.tup [x, y]) ∧ (∃ t r b, NumAt Z.c_Root H x t r b) ∧ (∃ t r b, NumAt Z.c_Root H y t r b) ∧ Q .non H)
theorem ok_check_point (T : Txt Z mg) (h_is_point : Has P w Z.K mg base "is_point" 3 ["thing"] (sp_is_point Z)) (h_BadPoint : HasX P w Z.K mg base "BadPoint" Z.c_BadPoint 1 ["self", "point"] (sp_BadPoint_init Z)) (D : AtF Z.K mg "check_point" "check_point" s_check_point ["point"]) : Has P w Z.K mg base "check_point" 4 ["point"] (sp_check_point Z) := by
  refine D.ok sc_check_point (fun vs H Q E h => ?_) (fun cdv A outer s H vs Q E hr h => ?_)
  · obtain ⟨v, rfl, _⟩ := h
    rfl
  · refine ⟨_, (pss_one (ps_if (pt_not (pt_val (pe_h (E := ED E) h_is_point hr (paW (takes_of rfl rfl rfl rfl)) (pa_cons (pv 0) pa_nil)))) (pss_one (ps_raise rfl (takes_of rfl rfl rfl rfl) (pm_h T.x_BadPoint h_BadPoint hr (pa_cons (pv 0) pa_nil)))) pss_nil)), ?_⟩
    try simp only [cxOf]
    obtain ⟨v, rfl, ⟨n, er⟩ | ⟨p, x, y, rfl, hp, hx, hy, q⟩⟩ := h
    · walk_at "W"
      refine ⟨_, rfl, .inl ⟨n, ?_⟩⟩
      walk_at "W"
      exact k_mkO fun d H2 hd s4 e4 => er d H2 hd s4 e4
    walk_at "W"
    refine ⟨_, rfl, .inr ⟨p, x, y, rfl, hp, hx, hy, ?_⟩⟩
    walk_at "W"
    exact q
abbrev s_is_half : Stmt := top 39
theorem sc_is_half : FnScope ["top", "bottom"] ["top", "bottom"] (defScope s_is_half) := ⟨rfl, rfl, rfl, by decide +kernel, rfl, by decide +kernel, by decide +kernel⟩

def sp_is_half (Z : Zs) : Sp := fun vs H Q E =>
  ∃ t b : Int, vs = [.int t, .int b] ∧ 0 < b ∧ Q (.bl (decB (∃ k, 2 * t = (2 * k + 1) * b))) H
theorem ok_is_half (T : Txt Z mg)  (D : AtF Z.K mg "is_half" "is_half" s_is_half ["top", "bottom"]) : Has P w Z.K mg base "is_half" 1 ["top", "bottom"] (sp_is_half Z) := by
  refine D.ok sc_is_half (fun vs H Q E h => ?_) (fun cdv A outer s H vs Q E hr h => ?_)
  · obtain ⟨t, b, rfl, _⟩ := h
    rfl
  · refine ⟨_, (pss_one (ps_ret (pe_cmpR op_eq (pe_op op_mod (pe_op op_sub (pe_op op_mulS pe_int (pv 0)) (pv 1)) (pe_op op_mulS pe_int (pv 1))) pe_int (nomark _)))), ?_⟩
    try simp only [cxOf]
    obtain ⟨t, b, rfl, pb, q⟩ := h
    have hb : b ≠ 0 := by omega
    walk_at "W"
    by_cases c : ∃ k, 2 * t = (2 * k + 1) * b
    · rw [decB_t c] at q
      rw [decide_eq_true (vint0.mpr ((half_iff hb).mpr c))]
      exact q
    · rw [decB_f c] at q
      rw [decide_eq_false (fun z => c ((half_iff hb).mp (vint0.mp z)))]
      exact q
abbrev s_bars_evenly : Stmt := top 40
theorem sc_bars_evenly : FnScope ["number"] ["number"] (defScope s_bars_evenly) := ⟨rfl, rfl, rfl, by decide +kernel, rfl, by decide +kernel, by decide +kernel⟩

def sp_bars_evenly (Z : Zs) : Sp := fun vs H Q E =>
  ∃ v t r b, vs = [v] ∧ RootAt Z.c_Root H v t r b ∧ 0 < b ∧ Q (.bl (decB (EvB t r b))) H
theorem ok_bars_evenly (T : Txt Z mg) (h_is_half : Has P w Z.K mg base "is_half" 1 ["top", "bottom"] (sp_is_half Z)) (D : AtF Z.K mg "bars_evenly" "bars_evenly" s_bars_evenly ["number"]) : Has P w Z.K mg base "bars_evenly" 2 ["number"] (sp_bars_evenly Z) := by
  refine D.ok sc_bars_evenly (fun vs H Q E h => ?_) (fun cdv A outer s H vs Q E hr h => ?_)
  · obtain ⟨v, t, r, b, rfl, _⟩ := h
    rfl
  · refine ⟨_, (pss_one (ps_ret (pe_and (pe_h (E := ED E) h_is_half hr (paW (takes_of rfl rfl rfl rfl)) (pa_cons (pe_fld (pv 0) rfl) (pa_cons (pe_fld (pv 0) rfl) pa_nil))) (pe_one (pe_cmpR op_eq (pe_op op_mod (pe_op op_mulS pe_int (pe_fld (pv 0) rfl)) (pe_fld (pv 0) rfl)) pe_int (nomark _)))))), ?_⟩
    try simp only [cxOf]
    obtain ⟨v, t, r, b, rfl, ⟨a, dx, rfl, ha⟩, pb, q⟩ := h
    have hb : b ≠ 0 := by omega
    repeat (first | walk_at "s" | refine w_fld ha T.c_Root T.nf_top (rf_top _ _ _) ?_ | refine w_fld ha T.c_Root T.nf_root (rf_root _ _ _) ?_ | refine w_fld ha T.c_Root T.nf_bottom (rf_bottom _ _ _) ?_)
    refine ⟨t, b, rfl, pb, ?_⟩
    by_cases c : ∃ k, 2 * t = (2 * k + 1) * b
    · rw [decB_t c]
      repeat (first | walk_at "s" | refine w_fld ha T.c_Root T.nf_top (rf_top _ _ _) ?_ | refine w_fld ha T.c_Root T.nf_root (rf_root _ _ _) ?_ | refine w_fld ha T.c_Root T.nf_bottom (rf_bottom _ _ _) ?_)
      by_cases c2 : ∃ m, 2 * r = m * b
      · rw [decB_t ⟨c, c2⟩] at q
        rw [decide_eq_true (vint0.mpr ((emod_iff hb).mpr c2))]
        exact q
      · rw [decB_f (fun z => c2 z.2)] at q
        rw [decide_eq_false (fun z => c2 ((emod_iff hb).mp (vint0.mp z)))]
        exact q
    · rw [decB_f c]
      walk_at "W"
      rw [decB_f (fun z => c z.1)] at q
      exact q
abbrev s_bars_oddly : Stmt := top 41
theorem sc_bars_oddly : FnScope ["number"] ["number"] (defScope s_bars_oddly) := ⟨rfl, rfl, rfl, by decide +kernel, rfl, by decide +kernel, by decide +kernel⟩

def sp_bars_oddly (Z : Zs) : Sp := fun vs H Q E =>
  ∃ v t r b, vs = [v] ∧ RootAt Z.c_Root H v t r b ∧ 0 < b ∧ Q (.bl (decB (OdB t r b))) H
theorem ok_bars_oddly (T : Txt Z mg) (h_is_half : Has P w Z.K mg base "is_half" 1 ["top", "bottom"] (sp_is_half Z)) (D : AtF Z.K mg "bars_oddly" "bars_oddly" s_bars_oddly ["number"]) : Has P w Z.K mg base "bars_oddly" 2 ["number"] (sp_bars_oddly Z) := by
  refine D.ok sc_bars_oddly (fun vs H Q E h => ?_) (fun cdv A outer s H vs Q E hr h => ?_)
  · obtain ⟨v, t, r, b, rfl, _⟩ := h
    rfl
  · refine ⟨_, (pss_one (ps_ret (pe_and (pe_cmpR op_eq (pe_op op_mod (pe_fld (pv 0) rfl) (pe_fld (pv 0) rfl)) pe_int (nomark _)) (pe_one (pe_h (E := ED E) h_is_half hr (paW (takes_of rfl rfl rfl rfl)) (pa_cons (pe_fld (pv 0) rfl) (pa_cons (pe_fld (pv 0) rfl) pa_nil))))))), ?_⟩
    try simp only [cxOf]
    obtain ⟨v, t, r, b, rfl, ⟨a, dx, rfl, ha⟩, pb, q⟩ := h
    have hb : b ≠ 0 := by omega
    repeat (first | walk_at "s" | refine w_fld ha T.c_Root T.nf_top (rf_top _ _ _) ?_ | refine w_fld ha T.c_Root T.nf_root (rf_root _ _ _) ?_ | refine w_fld ha T.c_Root T.nf_bottom (rf_bottom _ _ _) ?_)
    by_cases c : ∃ m, t = m * b
    · rw [decide_eq_true (vint0.mpr ((emod_iff hb).mpr c))]
      repeat (first | walk_at "s" | refine w_fld ha T.c_Root T.nf_top (rf_top _ _ _) ?_ | refine w_fld ha T.c_Root T.nf_root (rf_root _ _ _) ?_ | refine w_fld ha T.c_Root T.nf_bottom (rf_bottom _ _ _) ?_)
      refine ⟨r, b, rfl, pb, ?_⟩
      by_cases c2 : ∃ k, 2 * r = (2 * k + 1) * b
      · rw [decB_t c2]
        rw [decB_t ⟨c, c2⟩] at q
        exact q
      · rw [decB_f c2]
        rw [decB_f (fun z => c2 z.2)] at q
        exact q
    · rw [decide_eq_false (fun z => c ((emod_iff hb).mp (vint0.mp z)))]
      walk_at "W"
      rw [decB_f (fun z => c z.1)] at q
      exact q
/-- the least direction that bars a shift, as the program tells it -/
noncomputable def barV (t r b t' r' b' : Int) : V :=
  if decB (EvB t' r' b') = true then .int 0 else if decB (OdB (plus.t t r b t' r' b') (plus.r t r b t' r' b') (plus.b t r b t' r' b')) = true then .int 1 else if decB (EvB t r b) = true then .int 2 else if decB (OdB (minus.t t' r' b' t r b) (minus.r t' r' b' t r b) (minus.b t' r' b' t r b)) = true then .int 3 else .non
abbrev s_barred : Stmt := top 42
theorem sc_barred : FnScope ["shift", "x", "y", "found", "direction"] ["shift"] (defScope s_barred) := ⟨rfl, rfl, rfl, by decide +kernel, rfl, by decide +kernel, by decide +kernel⟩

def sp_barred (Z : Zs) : Sp := fun vs H Q E =>
  ∃ v, vs = [v] ∧ (NoPt Z H v ∧ ErX Z.c_BadPoint "point" v H E ∨ ∃ p x y t r b t' r' b', v = .ref p ∧ H p = some (.tup [x, y]) ∧ NumAt Z.c_Root H x t r b ∧ NumAt Z.c_Root H y t' r' b' ∧ Sm t r b ∧ Sm t' r' b' ∧ ∀ H', Same H H' → Q (barV t r b t' r' b') H')
theorem ok_barred (T : Txt Z mg) (h_bars_oddly : Has P w Z.K mg base "bars_oddly" 2 ["number"] (sp_bars_oddly Z)) (h_bars_evenly : Has P w Z.K mg base "bars_evenly" 2 ["number"] (sp_bars_evenly Z)) (h_as_roots : Has P w Z.K mg base "as_roots" 6 ["point"] (sp_as_roots Z)) (h_check_point : Has P w Z.K mg base "check_point" 4 ["point"] (sp_check_point Z)) (h_Root_add : HasM P w Z.K mg base Z.c_Root "__add__" 6 ["self", "other"] (sp_Root_add Z)) (h_Root_radd : HasM P w Z.K mg base Z.c_Root "__radd__" 7 ["self", "other"] (sp_Root_radd Z)) (h_Root_sub : HasM P w Z.K mg base Z.c_Root "__sub__" 6 ["self", "other"] (sp_Root_sub Z)) (h_Root_rsub : HasM P w Z.K mg base Z.c_Root "__rsub__" 7 ["self", "other"] (sp_Root_rsub Z)) (D : AtF Z.K mg "barred" "barred" s_barred ["shift"]) : Has P w Z.K mg base "barred" 8 ["shift"] (sp_barred Z) := by
  refine D.ok sc_barred (fun vs H Q E h => ?_) (fun cdv A outer s H vs Q E hr h => ?_)
  · obtain ⟨v, rfl, _⟩ := h
    rfl
  · refine ⟨_, (pss_cons (ps_expr (pe_h (E := ED E) h_check_point hr (paW (takes_of rfl rfl rfl rfl)) (pa_cons (pv 0) pa_nil)))
      (pss_cons (ps_asg (pe_h (E := ED E) h_as_roots hr (paW (takes_of rfl rfl rfl rfl)) (pa_cons (pv 0) pa_nil)) (pg_tup rfl (pgs_cons (pg_name (i := 1) sc_barred.nd rfl (Or.inl rfl)) (pgs_cons (pg_name (i := 2) sc_barred.nd rfl (Or.inl rfl)) pgs_nil))))
      (pss_cons (ps_set (i := 3) sc_barred.nd rfl (Or.inl rfl) (pe_tup (pa_cons (pe_h (E := ED E) h_bars_evenly hr (paW (takes_of rfl rfl rfl rfl)) (pa_cons (pv 2) pa_nil)) (pa_cons (pe_h (E := ED E) h_bars_oddly hr (paW (takes_of rfl rfl rfl rfl)) (pa_cons (pe_op (op_addB T.ow h_Root_add h_Root_radd hr passL) (pv 1) (pv 2)) pa_nil)) (pa_cons (pe_h (E := ED E) h_bars_evenly hr (paW (takes_of rfl rfl rfl rfl)) (pa_cons (pv 1) pa_nil)) (pa_cons (pe_h (E := ED E) h_bars_oddly hr (paW (takes_of rfl rfl rfl rfl)) (pa_cons (pe_op (op_subB T.ow h_Root_sub h_Root_rsub hr passL) (pv 2) (pv 1)) pa_nil)) pa_nil))))))
      (pss_cons (ps_for (passes_of rfl) rfl (pi_range1 rfl T.n_range (pa_cons pe_int pa_nil)) (pg_name (i := 4) sc_barred.nd rfl (Or.inl rfl)) (pss_one (ps_if (pt_truth (pe_ix ix_seq (pv 3) (pv 4) (fun _ _ => rfl)) (by intro _; rfl)) (pss_one (ps_ret (pv 4))) pss_nil)))
      (pss_one (ps_ret pe_non)))))), ?_⟩
    try simp only [cxOf]
    obtain ⟨v, rfl, ⟨n, er⟩ | ⟨p, x, y, t, r, b, t', r', b', rfl, hp, hx, hy, sm, sm', q⟩⟩ := h
    · walk_at "W"
      exact ⟨_, rfl, .inl ⟨n, er⟩⟩
    have pb := sm.lw.pos
    have pb' := sm'.lw.pos
    walk_at "W"
    refine ⟨_, rfl, .inr ⟨p, x, y, rfl, hp, ⟨_, _, _, hx⟩, ⟨_, _, _, hy⟩, ?_⟩⟩
    walk_at "W"
    refine ⟨p, x, y, t, r, b, t', r', b', rfl, hp, hx, hy, fun u vx vy H1 s1 e1 h1 h2 => ?_⟩
    refine k_tupl2 e1 rfl rfl ?_
    walk_at "W"
    refine ⟨vy, t', r', b', rfl, h2, pb', ?_⟩
    walk_at "W"
    refine k_ownB rfl rfl (.inl h1) (.inl h2) (.inl h1) sm sm' fun w1 H2 s2 g1 => ?_
    walk_at "W"
    refine ⟨w1, _, _, _, rfl, g1, (low_is (Int.mul_ne_zero sm.hn sm'.hn)).pos, ?_⟩
    walk_at "W"
    refine ⟨vx, t, r, b, rfl, h1.same s2, pb, ?_⟩
    walk_at "W"
    refine k_ownB rfl rfl (.inl (h2.same s2)) (.inl (h1.same s2)) (.inl (h2.same s2)) sm' sm fun w2 H3 s3 g2 => ?_
    walk_at "W"
    refine ⟨w2, _, _, _, rfl, g2, (low_is (Int.mul_ne_zero sm'.hn sm.hn)).pos, ?_⟩
    rw [show decB (OdB (lowT (plus.t t r b t' r' b') (plus.r t r b t' r' b') (plus.b t r b t' r' b')) (lowR (plus.t t r b t' r' b') (plus.r t r b t' r' b') (plus.b t r b t' r' b')) (lowB (plus.t t r b t' r' b') (plus.r t r b t' r' b') (plus.b t r b t' r' b'))) = decB (OdB (plus.t t r b t' r' b') (plus.r t r b t' r' b') (plus.b t r b t' r' b')) from congrArg decB (propext (od_low (Int.mul_ne_zero sm.hn sm'.hn))),
      show decB (OdB (lowT (minus.t t' r' b' t r b) (minus.r t' r' b' t r b) (minus.b t' r' b' t r b)) (lowR (minus.t t' r' b' t r b) (minus.r t' r' b' t r b) (minus.b t' r' b' t r b)) (lowB (minus.t t' r' b' t r b) (minus.r t' r' b' t r b) (minus.b t' r' b' t r b))) = decB (OdB (minus.t t' r' b' t r b) (minus.r t' r' b' t r b) (minus.b t' r' b' t r b)) from congrArg decB (propext (od_low (Int.mul_ne_zero sm'.hn sm.hn)))]
    unfold barV at q
    generalize decB (EvB t' r' b') = f0 at *
    generalize decB (OdB (plus.t t r b t' r' b') (plus.r t r b t' r' b') (plus.b t r b t' r' b')) = f1 at *
    generalize decB (EvB t r b) = f2 at *
    generalize decB (OdB (minus.t t' r' b' t r b) (minus.r t' r' b' t r b) (minus.b t' r' b' t r b)) = f3 at *
    walk_at "W"
    refine k_tup rfl fun uf H4 huf s4 e4 => ?_
    have S := s1.trans (s2.trans (s3.trans s4))
    walk_at "W"
    refine k_forR (fun i σ' H' => H' = H4 ∧ (∃ z, σ' = [some (.ref p), some vx, some vy, some (.ref uf), z]) ∧ (0 < i → f0 = false) ∧ (1 < i → f1 = false) ∧ (2 < i → f2 = false) ∧ (3 < i → f3 = false)) (by decide) (by decide) ⟨rfl, ⟨none, rfl⟩, by omega, by omega, by omega, by omega⟩ ?_ ?_
    · rintro i σ' H' hi ⟨rfl, ⟨z, rfl⟩, c0, c1, c2, c3⟩
      have hi4 : i = 0 ∨ i = 1 ∨ i = 2 ∨ i = 3 := by have : i < 4 := hi; omega
      rcases hi4 with rfl | rfl | rfl | rfl
      · walk_at "W"
        refine ⟨_, rfl, ?_⟩
        cases f0
        · walk_at "W"
          exact ⟨rfl, ⟨_, rfl⟩, fun _ => rfl, by omega, by omega, by omega⟩
        · walk_at "W"
          exact q _ S
      · walk_at "W"
        refine ⟨_, rfl, ?_⟩
        have c0 := c0 (by omega)
        subst c0
        cases f1
        · walk_at "W"
          exact ⟨rfl, ⟨_, rfl⟩, fun _ => rfl, fun _ => rfl, by omega, by omega⟩
        · walk_at "W"
          exact q _ S
      · walk_at "W"
        refine ⟨_, rfl, ?_⟩
        have c0 := c0 (by omega)
        have c1 := c1 (by omega)
        subst c0 c1
        cases f2
        · walk_at "W"
          exact ⟨rfl, ⟨_, rfl⟩, fun _ => rfl, fun _ => rfl, fun _ => rfl, by omega⟩
        · walk_at "W"
          exact q _ S
      · walk_at "W"
        refine ⟨_, rfl, ?_⟩
        have c0 := c0 (by omega)
        have c1 := c1 (by omega)
        have c2 := c2 (by omega)
        subst c0 c1 c2
        cases f3
        · walk_at "W"
          exact ⟨rfl, ⟨_, rfl⟩, fun _ => rfl, fun _ => rfl, fun _ => rfl, fun _ => rfl⟩
        · walk_at "W"
          exact q _ S
    · rintro σ' H' ⟨rfl, ⟨z, rfl⟩, c0, c1, c2, c3⟩
      have c0 := c0 (by decide)
      have c1 := c1 (by decide)
      have c2 := c2 (by decide)
      have c3 := c3 (by decide)
      subst c0 c1 c2 c3
      walk_at "W"
      exact q _ S
/-- the shift over a common bottom -/
structure Gau (B X1 X2 Y1 Y2 t r b t' r' b' : Int) : Prop where
  pB : 0 < B
  wB : Bw 130 B
  w1 : Bw 600 X1
  w2 : Bw 600 X2
  w3 : Bw 600 Y1
  w4 : Bw 600 Y2
  e1 : X1 * b = t * B
  e2 : X2 * b = r * B
  e3 : Y1 * b' = t' * B
  e4 : Y2 * b' = r' * B
abbrev s_gauge_of : Stmt := top 33
theorem sc_gauge_of : FnScope ["shift", "x", "y", "bottom", "by", "up"] ["shift"] (defScope s_gauge_of) := ⟨rfl, rfl, rfl, by decide +kernel, rfl, by decide +kernel, by decide +kernel⟩

def sp_gauge_of (Z : Zs) : Sp := fun vs H Q E =>
  ∃ p vx vy t r b t' r' b', vs = [.ref p] ∧ H p = some (.tup [vx, vy]) ∧ RootAt Z.c_Root H vx t r b ∧ RootAt Z.c_Root H vy t' r' b' ∧ 0 < b ∧ 0 < b' ∧ Bw 64 b ∧ Bw 64 b' ∧ Bw 400 t ∧ Bw 400 r ∧ Bw 400 t' ∧ Bw 400 r' ∧
    ∀ u B X1 X2 Y1 Y2 H', Same H H' → H' u = some (.tup [.int B, .int X1, .int X2, .int Y1, .int Y2]) → Gau B X1 X2 Y1 Y2 t r b t' r' b' → Q (.ref u) H'
theorem ok_gauge_of (T : Txt Z mg)  (D : AtF Z.K mg "gauge_of" "gauge_of" s_gauge_of ["shift"]) : Has P w Z.K mg base "gauge_of" 1 ["shift"] (sp_gauge_of Z) := by
  refine D.ok sc_gauge_of (fun vs H Q E h => ?_) (fun cdv A outer s H vs Q E hr h => ?_)
  · obtain ⟨p, vx, vy, t, r, b, t', r', b', rfl, _⟩ := h
    rfl
  · refine ⟨_, (pss_cons (ps_asg (pv 0) (pg_tup rfl (pgs_cons (pg_name (i := 1) sc_gauge_of.nd rfl (Or.inl rfl)) (pgs_cons (pg_name (i := 2) sc_gauge_of.nd rfl (Or.inl rfl)) pgs_nil))))
      (pss_cons (ps_set (i := 3) sc_gauge_of.nd rfl (Or.inl rfl) (pe_callBfun cr_lcm rfl T.g_lcm (pa_cons (pe_fld (pv 1) rfl) (pa_cons (pe_fld (pv 2) rfl) pa_nil))))
      (pss_cons (ps_set (i := 4) sc_gauge_of.nd rfl (Or.inl rfl) (pe_op op_fdivW (pv 3) (pe_fld (pv 1) rfl)))
      (pss_cons (ps_set (i := 5) sc_gauge_of.nd rfl (Or.inl rfl) (pe_op op_fdivW (pv 3) (pe_fld (pv 2) rfl)))
      (pss_one (ps_ret (pe_tup (pa_cons (pv 3) (pa_cons (pe_op op_mulS (pe_fld (pv 1) rfl) (pv 4)) (pa_cons (pe_op op_mulS (pe_fld (pv 1) rfl) (pv 4)) (pa_cons (pe_op op_mulS (pe_fld (pv 2) rfl) (pv 5)) (pa_cons (pe_op op_mulS (pe_fld (pv 2) rfl) (pv 5)) pa_nil)))))))))))), ?_⟩
    try simp only [cxOf]
    obtain ⟨p, vx, vy, t, r, b, t', r', b', rfl, hp, ⟨a, dx, rfl, ha⟩, ⟨a', dx', rfl, ha'⟩, pb, pb', wb, wb', wt, wr, wt', wr', q⟩ := h
    have hdw : ∀ x : Int, CDivW x b := fun x => wide_div pb (wb.bd (by decide)) (by decide) (by decide)
    have hdw' : ∀ x : Int, CDivW x b' := fun x => wide_div pb' (wb'.bd (by decide)) (by decide) (by decide)
    walk_at "W"
    refine k_tupl2 hp rfl rfl ?_
    repeat (first | walk_at "s" | refine w_fld ha T.c_Root T.nf_bottom (rf_bottom _ _ _) ?_ | refine w_fld ha' T.c_Root T.nf_bottom (rf_bottom _ _ _) ?_)
    refine w_lcm wb wb' ?_
    obtain ⟨m, em⟩ : b.natAbs ∣ b.natAbs.lcm b'.natAbs := Nat.dvd_lcm_left _ _
    obtain ⟨m', em'⟩ : b'.natAbs ∣ b.natAbs.lcm b'.natAbs := Nat.dvd_lcm_right _ _
    have lpos : 0 < b.natAbs.lcm b'.natAbs := Nat.lcm_pos (by omega) (by omega)
    have lle : b.natAbs.lcm b'.natAbs ≤ b.natAbs * b'.natAbs := Nat.le_of_dvd (Nat.mul_pos (by omega) (by omega)) (Nat.lcm_dvd (Nat.dvd_mul_right _ _) (Nat.dvd_mul_left _ _))
    generalize b.natAbs.lcm b'.natAbs = L at *
    have eL : (L : Int) = (m : Int) * b := by
      have : (b.natAbs : Int) = b := by omega
      rw [em, Int.natCast_mul, this, Int.mul_comm]
    have eL' : (L : Int) = (m' : Int) * b' := by
      have : (b'.natAbs : Int) = b' := by omega
      rw [em', Int.natCast_mul, this, Int.mul_comm]
    have wL : Bw 130 (L : Int) := by
      have h1 : Bw 128 (b * b') := wb.mul wb'
      unfold Bw at *
      rw [Int.natAbs_mul] at h1
      rw [Int.natAbs_natCast]
      exact Nat.lt_of_le_of_lt lle (Nat.lt_of_lt_of_le h1 (Nat.pow_le_pow_right (by decide) (by decide)))
    have mle : ∀ {m : Nat} {b : Int}, 0 < b → (L : Int) = (m : Int) * b → Bw 130 (m : Int) := fun {m b} pb e => by
      refine bw_div wL e (by omega)
    have wm := mle pb eL
    have wm' := mle pb' eL'
    repeat (first | walk_at "s" | refine w_I (hdw _) ?_ | refine w_I (hdw' _) ?_ | refine w_fld ha T.c_Root T.nf_bottom (rf_bottom _ _ _) ?_ | refine w_fld ha' T.c_Root T.nf_bottom (rf_bottom _ _ _) ?_)
    rw [ediv_of (by omega) eL, ediv_of (by omega) eL']
    repeat (first | walk_at "s" | refine w_fld ha T.c_Root T.nf_top (rf_top _ _ _) ?_ | refine w_fld ha T.c_Root T.nf_root (rf_root _ _ _) ?_ | refine w_fld ha' T.c_Root T.nf_top (rf_top _ _ _) ?_ | refine w_fld ha' T.c_Root T.nf_root (rf_root _ _ _) ?_ | walk_at "mul")
    refine k_tup rfl fun u H1 hu s1 e1 => q u _ _ _ _ _ H1 s1 e1 ⟨by omega, wL, (wt.mul wm).mono (by decide), (wr.mul wm).mono (by decide), (wt'.mul wm').mono (by decide), (wr'.mul wm').mono (by decide), ?_, ?_, ?_, ?_⟩
    · rw [eL]; exact Int.mul_assoc _ _ _
    · rw [eL]; exact Int.mul_assoc _ _ _
    · rw [eL']; exact Int.mul_assoc _ _ _
    · rw [eL']; exact Int.mul_assoc _ _ _
/-- whether a number lies between minus and plus an edge -/
def bes (t r e f : Int) : Bool := decide (0 < sgn (e - t) (f - r)) && decide (0 < sgn (e + t) (f + r))
abbrev s_beside : Stmt := top 34
theorem sc_beside : FnScope ["top", "root", "edge_top", "edge_root"] ["top", "root", "edge_top", "edge_root"] (defScope s_beside) := ⟨rfl, rfl, rfl, by decide +kernel, rfl, by decide +kernel, by decide +kernel⟩

def sp_beside (Z : Zs) : Sp := fun vs H Q E =>
  ∃ t r e f : Int, vs = [.int t, .int r, .int e, .int f] ∧ Bw 2000 t ∧ Bw 2000 r ∧ Bw 2000 e ∧ Bw 2000 f ∧ Q (.bl (bes t r e f)) H
theorem ok_beside (T : Txt Z mg) (h_surd_sign : Has P w Z.K mg base "surd_sign" 1 ["top", "root"] (sp_surd_sign Z)) (D : AtF Z.K mg "beside" "beside" s_beside ["top", "root", "edge_top", "edge_root"]) : Has P w Z.K mg base "beside" 2 ["top", "root", "edge_top", "edge_root"] (sp_beside Z) := by
  refine D.ok sc_beside (fun vs H Q E h => ?_) (fun cdv A outer s H vs Q E hr h => ?_)
  · obtain ⟨t, r, e, f, rfl, _⟩ := h
    rfl
  · refine ⟨_, (pss_cons (ps_if (pt_cmpR op_le (pe_h (E := ED E) h_surd_sign hr (paW (takes_of rfl rfl rfl rfl)) (pa_cons (pe_op op_sub (pv 2) (pv 0)) (pa_cons (pe_op op_sub (pv 3) (pv 1)) pa_nil))) pe_int (nomark _)) (pss_one (ps_ret pe_bl)) pss_nil)
      (pss_one (ps_ret (pe_cmpR op_gt (pe_h (E := ED E) h_surd_sign hr (paW (takes_of rfl rfl rfl rfl)) (pa_cons (pe_op op_add (pv 2) (pv 0)) (pa_cons (pe_op op_add (pv 3) (pv 1)) pa_nil))) pe_int (nomark _))))), ?_⟩
    try simp only [cxOf]
    obtain ⟨t, r, e, f, rfl, wt, wr, we, wf, q⟩ := h
    unfold bes at q
    walk_at "W"
    refine ⟨_, _, rfl, (we.sub wt).mono (by decide), (wf.sub wr).mono (by decide), ?_⟩
    walk_at "W"
    by_cases c : sgn (e - t) (f - r) ≤ 0
    · rw [decide_eq_true c]
      rw [decide_eq_false (show ¬ (0 < sgn (e - t) (f - r)) by omega)] at q
      walk_at "W"
      exact q
    · rw [decide_eq_false c]
      rw [decide_eq_true (show 0 < sgn (e - t) (f - r) by omega)] at q
      walk_at "W"
      refine ⟨_, _, rfl, (we.add wt).mono (by decide), (wf.add wr).mono (by decide), ?_⟩
      walk_at "W"
      exact q
/-- the window's test over a common bottom -/
def inW (B X1 X2 Y1 Y2 : Int) (c : C4) : Bool :=
  bes (2 * (B * c.a - X1)) (B * (c.d - c.b) - 2 * X2) B B && (bes (-2 * (B * c.c + Y1)) (B * (c.b + c.d) - 2 * Y2) B B && (bes (2 * (B * c.a - X1) + -2 * (B * c.c + Y1)) (B * (c.d - c.b) - 2 * X2 + (B * (c.b + c.d) - 2 * Y2)) (2 * B) B &&
    bes (2 * (B * c.a - X1) - -2 * (B * c.c + Y1)) (B * (c.d - c.b) - 2 * X2 - (B * (c.b + c.d) - 2 * Y2)) (2 * B) B))
theorem k_tup5 {K : PySem.W.Frag} {T : Addr} {x y z u v : V} {σ σ' : L2.St} {H : Hp} {i j k l m : Nat} {N : L2.St → Hp → Prop} {n : Nat} (hT : H T = some (.tup [x, y, z, u, v])) (hn : n = 5) (hσ : ((((σ.set i (some x)).set j (some y)).set k (some z)).set l (some u)).set m (some v) = σ') (q : N σ' H) :
    gTup K n (gCons (gName i) (gCons (gName j) (gCons (gName k) (gCons (gName l) (gCons (gName m) gNil))))) (.ref T) σ H N := by
  subst hσ
  exact ⟨T, [x, y, z, u, v], rfl, SqT.of hT, by rw [hn]; rfl, x, _, rfl, y, _, rfl, z, _, rfl, u, _, rfl, v, [], rfl, rfl, q⟩
abbrev s_in_window : Stmt := top 35
theorem sc_in_window : FnScope ["gauge", "corner", "bottom", "x_top", "x_root", "y_top", "y_root", "x0", "x1", "x2", "x3", "top", "root", "up", "up_root"] ["gauge", "corner"] (defScope s_in_window) := ⟨rfl, rfl, rfl, by decide +kernel, rfl, by decide +kernel, by decide +kernel⟩

def sp_in_window (Z : Zs) : Sp := fun vs H Q E =>
  ∃ g p B X1 X2 Y1 Y2 c, vs = [.ref g, .ref p] ∧ H g = some (.tup [.int B, .int X1, .int X2, .int Y1, .int Y2]) ∧ H p = some (.tup [.int (c : C4).a, .int c.b, .int c.c, .int c.d]) ∧ Bw 130 B ∧ Bw 600 X1 ∧ Bw 600 X2 ∧ Bw 600 Y1 ∧ Bw 600 Y2 ∧ C4.bw 600 c ∧ Q (.bl (inW B X1 X2 Y1 Y2 c)) H
theorem ok_in_window (T : Txt Z mg) (h_beside : Has P w Z.K mg base "beside" 2 ["top", "root", "edge_top", "edge_root"] (sp_beside Z)) (D : AtF Z.K mg "in_window" "in_window" s_in_window ["gauge", "corner"]) : Has P w Z.K mg base "in_window" 3 ["gauge", "corner"] (sp_in_window Z) := by
  refine D.ok sc_in_window (fun vs H Q E h => ?_) (fun cdv A outer s H vs Q E hr h => ?_)
  · obtain ⟨g, p, B, X1, X2, Y1, Y2, c, rfl, _⟩ := h
    rfl
  · refine ⟨_, (pss_cons (ps_asg (pv 0) (pg_tup rfl (pgs_cons (pg_name (i := 2) sc_in_window.nd rfl (Or.inl rfl)) (pgs_cons (pg_name (i := 3) sc_in_window.nd rfl (Or.inl rfl)) (pgs_cons (pg_name (i := 4) sc_in_window.nd rfl (Or.inl rfl)) (pgs_cons (pg_name (i := 5) sc_in_window.nd rfl (Or.inl rfl)) (pgs_cons (pg_name (i := 6) sc_in_window.nd rfl (Or.inl rfl)) pgs_nil)))))))
      (pss_cons (ps_asg (pv 1) (pg_tup rfl (pgs_cons (pg_name (i := 7) sc_in_window.nd rfl (Or.inl rfl)) (pgs_cons (pg_name (i := 8) sc_in_window.nd rfl (Or.inl rfl)) (pgs_cons (pg_name (i := 9) sc_in_window.nd rfl (Or.inl rfl)) (pgs_cons (pg_name (i := 10) sc_in_window.nd rfl (Or.inl rfl)) pgs_nil))))))
      (pss_cons (ps_set (i := 11) sc_in_window.nd rfl (Or.inl rfl) (pe_op op_mulS pe_int (pe_op op_sub (pe_op op_mulS (pv 2) (pv 7)) (pv 3))))
      (pss_cons (ps_set (i := 12) sc_in_window.nd rfl (Or.inl rfl) (pe_op op_sub (pe_op op_mulS (pv 2) (pe_op op_sub (pv 10) (pv 8))) (pe_op op_mulS pe_int (pv 4))))
      (pss_cons (ps_if (pt_not (pt_val (pe_h (E := ED E) h_beside hr (paW (takes_of rfl rfl rfl rfl)) (pa_cons (pv 11) (pa_cons (pv 12) (pa_cons (pv 2) (pa_cons (pv 2) pa_nil))))))) (pss_one (ps_ret pe_bl)) pss_nil)
      (pss_cons (ps_set (i := 13) sc_in_window.nd rfl (Or.inl rfl) (pe_op op_mulS (pe_un un_neg pe_int) (pe_op op_add (pe_op op_mulS (pv 2) (pv 9)) (pv 5))))
      (pss_cons (ps_set (i := 14) sc_in_window.nd rfl (Or.inl rfl) (pe_op op_sub (pe_op op_mulS (pv 2) (pe_op op_add (pv 8) (pv 10))) (pe_op op_mulS pe_int (pv 6))))
      (pss_cons (ps_if (pt_not (pt_val (pe_h (E := ED E) h_beside hr (paW (takes_of rfl rfl rfl rfl)) (pa_cons (pv 13) (pa_cons (pv 14) (pa_cons (pv 2) (pa_cons (pv 2) pa_nil))))))) (pss_one (ps_ret pe_bl)) pss_nil)
      (pss_cons (ps_if (pt_not (pt_val (pe_h (E := ED E) h_beside hr (paW (takes_of rfl rfl rfl rfl)) (pa_cons (pe_op op_add (pv 11) (pv 13)) (pa_cons (pe_op op_add (pv 12) (pv 14)) (pa_cons (pe_op op_mulS pe_int (pv 2)) (pa_cons (pv 2) pa_nil))))))) (pss_one (ps_ret pe_bl)) pss_nil)
      (pss_one (ps_ret (pe_h (E := ED E) h_beside hr (paW (takes_of rfl rfl rfl rfl)) (pa_cons (pe_op op_sub (pv 11) (pv 13)) (pa_cons (pe_op op_sub (pv 12) (pv 14)) (pa_cons (pe_op op_mulS pe_int (pv 2)) (pa_cons (pv 2) pa_nil)))))))))))))))), ?_⟩
    try simp only [cxOf]
    obtain ⟨g, p, B, X1, X2, Y1, Y2, c, rfl, hg, hp, wB, w1, w2, w3, w4, ⟨wa, wb, wc, wd⟩, q⟩ := h
    unfold inW at q
    have wn2 : Bw 2 (-2 : Int) := Bw.two.neg
    walk_at "W"
    refine k_tup5 hg rfl rfl ?_
    walk_at "W"
    refine k_tup4 hp rfl rfl ?_
    repeat (first | walk_at "s" | walk_at "mul")
    have v1 : Bw 1000 (2 * (B * c.a - X1)) := (Bw.two.mul ((wB.mul wa).sub w1)).mono (by decide)
    have v2 : Bw 1000 (B * (c.d - c.b) - 2 * X2) := ((wB.mul (wd.sub wb)).sub (Bw.two.mul w2)).mono (by decide)
    have v3 : Bw 1000 (-2 * (B * c.c + Y1)) := (wn2.mul ((wB.mul wc).add w3)).mono (by decide)
    have v4 : Bw 1000 (B * (c.b + c.d) - 2 * Y2) := ((wB.mul (wb.add wd)).sub (Bw.two.mul w4)).mono (by decide)
    have v5 : Bw 2000 (2 * B) := (Bw.two.mul wB).mono (by decide)
    have v6 : Bw 2000 B := wB.mono (by decide)
    have v1' : Bw 2000 (2 * (B * c.a - X1)) := v1.mono (by decide)
    have v2' : Bw 2000 (B * (c.d - c.b) - 2 * X2) := v2.mono (by decide)
    have v3' : Bw 2000 (-2 * (B * c.c + Y1)) := v3.mono (by decide)
    have v4' : Bw 2000 (B * (c.b + c.d) - 2 * Y2) := v4.mono (by decide)
    have v7 : Bw 2000 ((2 * (B * c.a - X1)) + (-2 * (B * c.c + Y1))) := (v1.add v3).mono (by decide)
    have v8 : Bw 2000 ((B * (c.d - c.b) - 2 * X2) + (B * (c.b + c.d) - 2 * Y2)) := (v2.add v4).mono (by decide)
    have v9 : Bw 2000 ((2 * (B * c.a - X1)) - (-2 * (B * c.c + Y1))) := (v1.sub v3).mono (by decide)
    have v0 : Bw 2000 ((B * (c.d - c.b) - 2 * X2) - (B * (c.b + c.d) - 2 * Y2)) := (v2.sub v4).mono (by decide)
    refine ⟨_, _, _, _, rfl, v1', v2', v6, v6, ?_⟩
    cases e1 : bes (2 * (B * c.a - X1)) (B * (c.d - c.b) - 2 * X2) B B
    · rw [e1] at q
      walk_at "W"
      exact q
    rw [e1] at q
    repeat (first | walk_at "s" | walk_at "mul")
    refine ⟨_, _, _, _, rfl, v3', v4', v6, v6, ?_⟩
    cases e2 : bes (-2 * (B * c.c + Y1)) (B * (c.b + c.d) - 2 * Y2) B B
    · rw [e2] at q
      walk_at "W"
      exact q
    rw [e2] at q
    repeat (first | walk_at "s" | walk_at "mul")
    refine ⟨_, _, _, _, rfl, v7, v8, v5, v6, ?_⟩
    cases e3 : bes ((2 * (B * c.a - X1)) + (-2 * (B * c.c + Y1))) ((B * (c.d - c.b) - 2 * X2) + (B * (c.b + c.d) - 2 * Y2)) (2 * B) B
    · rw [e3] at q
      walk_at "W"
      exact q
    rw [e3] at q
    repeat (first | walk_at "s" | walk_at "mul")
    refine ⟨_, _, _, _, rfl, v9, v0, v5, v6, ?_⟩
    exact q
def floorF (u g : Addr) : List (Str × V) := [("shift", .ref u), ("_gauge", .ref g)]
theorem putS (v : V) : putF "shift" v [] = [(("shift" : Str), v)] := rfl
theorem putG (u v : V) : putF "_gauge" v [(("shift" : Str), u)] = [(("shift" : Str), u), ("_gauge", v)] := by
  have h1 : ¬ (("shift" : Str) = "_gauge") := by decide +kernel
  simp [putF, h1]
theorem ff_shift (u g : Addr) : (floorF u g).lookup ("shift" : Str) = some (.ref u) := by simp [floorF, List.lookup]
theorem ff_gauge (u g : Addr) : (floorF u g).lookup ("_gauge" : Str) = some (.ref g) := by
  have h1 : (("_gauge" : Str) == "shift") = false := by decide +kernel
  simp [floorF, List.lookup, h1]
theorem ff_none {u g : Addr} {m : Str} (h1 : (m == ("shift" : Str)) = false) (h2 : (m == ("_gauge" : Str)) = false) : (floorF u g).lookup m = none := by simp [floorF, List.lookup, h1, h2]
/-- a floor with a shift of two numbers, as kept -/
def FloorAt (Z : Zs) (H : Hp) (v : V) (t r b t' r' b' : Int) : Prop := ∃ a dx u g vx vy B X1 X2 Y1 Y2, v = .ref a ∧ H a = some (.ins Z.c_Floor dx (floorF u g)) ∧ H u = some (.tup [vx, vy]) ∧ RootAt Z.c_Root H vx t r b ∧ RootAt Z.c_Root H vy t' r' b' ∧
  H g = some (.tup [.int B, .int X1, .int X2, .int Y1, .int Y2]) ∧ Gau B X1 X2 Y1 Y2 t r b t' r' b'
theorem FloorAt.kps {Z : Zs} {H H' : Hp} {v : V} {t r b t' r' b' : Int} (h : FloorAt Z H v t r b t' r' b') (k : Kps H H') : FloorAt Z H' v t r b t' r' b' := by
  obtain ⟨a, dx, u, g, vx, vy, B, X1, X2, Y1, Y2, rfl, e1, e2, ⟨x, dx1, rfl, e3⟩, ⟨y, dx2, rfl, e4⟩, e5, G⟩ := h
  have n : ∀ {C d : Addr} {fs : List (Str × V)} (xs : List V), HO.ins C d fs ≠ .lst xs := fun xs z => by cases z
  exact ⟨a, dx, u, g, _, _, B, X1, X2, Y1, Y2, rfl, k _ _ n e1, k.tup e2, ⟨x, dx1, rfl, k _ _ n e3⟩, ⟨y, dx2, rfl, k _ _ n e4⟩, k.tup e5, G⟩
theorem FloorAt.same {Z : Zs} {H H' : Hp} {v : V} {t r b t' r' b' : Int} (h : FloorAt Z H v t r b t' r' b') (s : Same H H') : FloorAt Z H' v t r b t' r' b' := h.kps (Kps.same s)
theorem NumAt.sxF {c p : Addr} {H H' : Hp} {v : V} {t r b : Int} (h : NumAt c H v t r b) (n : ∀ a, v = .ref a → a ≠ p) (s : SameX p H H') : NumAt c H' v t r b := by
  rcases h with ⟨a, dx, rfl, e⟩ | h
  · exact .inl ⟨a, dx, rfl, s _ _ (n a rfl) e⟩
  · exact .inr h
abbrev s_Floor_init : Stmt := inClass (top 43) 0
theorem sc_Floor_init : FnScope ["self", "shift", "direction"] ["self", "shift"] (defScope s_Floor_init) := ⟨rfl, rfl, rfl, by decide +kernel, rfl, by decide +kernel, by decide +kernel⟩

def sp_Floor_init (Z : Zs) : Sp := fun vs H Q E =>
  ∃ p dx v, vs = [.ref p, v] ∧ H p = some (.ins Z.c_Floor dx []) ∧ (NoPt Z H v ∧ ErX Z.c_BadPoint "point" v H E ∨ ∃ w x y t r b t' r' b', v = .ref w ∧ H w = some (.tup [x, y]) ∧ NumAt Z.c_Root H x t r b ∧ NumAt Z.c_Root H y t' r' b' ∧ Sm t r b ∧ Sm t' r' b' ∧
    ((∃ k, barV t r b t' r' b' = .int k ∧ ErX Z.c_Barred "direction" (.int k) H E) ∨ Bw 64 b ∧ Bw 64 b' ∧ Bw 400 t ∧ Bw 400 r ∧ Bw 400 t' ∧ Bw 400 r' ∧ barV t r b t' r' b' = .non ∧ ∀ H', SameX p H H' → FloorAt Z H' (.ref p) t r b t' r' b' → Q .non H'))
theorem ok_Floor_init (T : Txt Z mg) (h_gauge_of : Has P w Z.K mg base "gauge_of" 1 ["shift"] (sp_gauge_of Z)) (h_as_roots : Has P w Z.K mg base "as_roots" 6 ["point"] (sp_as_roots Z)) (h_Barred : HasX P w Z.K mg base "Barred" Z.c_Barred 1 ["self", "direction"] (sp_Barred_init Z)) (h_barred : Has P w Z.K mg base "barred" 8 ["shift"] (sp_barred Z)) (h_check_point : Has P w Z.K mg base "check_point" 4 ["point"] (sp_check_point Z)) (D : AtC Z.K mg "Floor" Z.c_Floor "Floor.__init__" s_Floor_init ["self", "shift"]) : HasC P w Z.K mg base "Floor" Z.c_Floor 9 ["self", "shift"] (sp_Floor_init Z) := by
  refine D.ok sc_Floor_init (fun vs H Q E h => ?_) (fun cdv A outer s H vs Q E hr h => ?_)
  · obtain ⟨p, dx, v, rfl, _⟩ := h
    rfl
  · refine ⟨_, (pss_cons (ps_expr (pe_h (E := ED E) h_check_point hr (paW (takes_of rfl rfl rfl rfl)) (pa_cons (pv 1) pa_nil)))
      (pss_cons (ps_set (i := 2) sc_Floor_init.nd rfl (Or.inl rfl) (pe_h (E := ED E) h_barred hr (paW (takes_of rfl rfl rfl rfl)) (pa_cons (pv 1) pa_nil)))
      (pss_cons (ps_if (pt_cmpR op_notN (pv 2) pe_non (nomark _)) (pss_one (ps_raise rfl (takes_of rfl rfl rfl rfl) (pm_h T.x_Barred h_Barred hr (pa_cons (pv 2) pa_nil)))) pss_nil)
      (pss_cons (ps_fld (pv 0) (pe_h (E := ED E) h_as_roots hr (paW (takes_of rfl rfl rfl rfl)) (pa_cons (pv 1) pa_nil)) rfl)
      (pss_one (ps_fld (pv 0) (pe_h (E := ED E) h_gauge_of hr (paW (takes_of rfl rfl rfl rfl)) (pa_cons (pe_fld (pv 0) rfl) pa_nil)) rfl)))))), ?_⟩
    try simp only [cxOf]
    obtain ⟨p, dx, v, rfl, hp, ⟨n, er⟩ | ⟨w, x, y, t, r, b, t', r', b', rfl, hw, hx, hy, sm, sm', hh⟩⟩ := h
    · walk_at "W"
      exact ⟨_, rfl, .inl ⟨n, er⟩⟩
    walk_at "W"
    refine ⟨_, rfl, .inr ⟨w, x, y, rfl, hw, ⟨_, _, _, hx⟩, ⟨_, _, _, hy⟩, ?_⟩⟩
    walk_at "W"
    refine ⟨_, rfl, .inr ⟨w, x, y, t, r, b, t', r', b', rfl, hw, hx, hy, sm, sm', fun H1 s1 => ?_⟩⟩
    rcases hh with ⟨k, ek, er⟩ | ⟨wb, wb', wt, wr, wt', wr', nb, q⟩
    · rw [ek]
      walk_at "W"
      exact k_mkO (er.same s1)
    rw [nb]
    walk_at "W"
    refine ⟨w, x, y, t, r, b, t', r', b', rfl, s1 _ _ hw, hx.same s1, hy.same s1, fun u vx vy H2 s2 e2 h1 h2 => ?_⟩
    have S2 := s1.trans s2
    walk_at "W"
    refine w_sto (S2 _ _ hp) T.c_Floor T.nf_Floor_shift rfl fun H3 x3 e3 => ?_
    rw [putS] at e3
    have np : ∀ {a : Addr} {o : HO}, H2 a = some o → (∀ C d fs, o ≠ .ins C d fs) ∨ (∃ C d fs, o = .ins C d fs ∧ C ≠ Z.c_Floor) ∨ (∃ C d f fs, o = .ins C d (f :: fs)) → a ≠ p := fun {a o} e h z => by
      have e0 := S2 _ _ hp
      rw [← z, e] at e0
      cases e0
      rcases h with h | ⟨_, _, _, h, n⟩ | ⟨_, _, _, _, h⟩
      · exact h _ _ _ rfl
      · cases h; exact n rfl
      · cases h
    have up : H3 u = some (.tup [vx, vy]) := x3 _ _ (np e2 (.inl (by intros; intro z; cases z))) e2
    obtain ⟨ax, dx1, rfl, g1⟩ := h1
    obtain ⟨ay, dx2, rfl, g2⟩ := h2
    have k1 : H3 ax = some (.ins Z.c_Root dx1 (rootF t r b)) := x3 _ _ (np g1 (.inr (.inr ⟨_, _, _, _, rfl⟩))) g1
    have k2 : H3 ay = some (.ins Z.c_Root dx2 (rootF t' r' b')) := x3 _ _ (np g2 (.inr (.inr ⟨_, _, _, _, rfl⟩))) g2
    walk_at "W"
    refine w_fld e3 T.c_Floor T.nf_Floor_shift (show ([(("shift" : Str), V.ref u)] : List (Str × V)).lookup ("shift" : Str) = some (.ref u) by simp [List.lookup]) ?_
    walk_at "W"
    refine ⟨u, _, _, t, r, b, t', r', b', rfl, up, ⟨ax, dx1, rfl, k1⟩, ⟨ay, dx2, rfl, k2⟩, sm.lw.pos, sm'.lw.pos, wb, wb', wt, wr, wt', wr', fun g B X1 X2 Y1 Y2 H4 s4 eg G => ?_⟩
    walk_at "W"
    refine w_sto (s4 _ _ e3) T.c_Floor T.nf_Floor__gauge rfl fun H5 x5 e5 => ?_
    rw [putG] at e5
    have nq : ∀ {a : Addr} {o : HO}, H4 a = some o → (∀ C d fs, o ≠ .ins C d fs) ∨ (∃ C d f1 f2 f3 fs, o = .ins C d (f1 :: f2 :: f3 :: fs)) → a ≠ p := fun {a o} e h z => by
      have e0 := s4 _ _ e3
      rw [← z, e] at e0
      cases e0
      rcases h with h | ⟨_, _, _, _, _, _, h⟩
      · exact h _ _ _ rfl
      · cases h
    refine q H5 ((Same.x S2).trans (x3.trans ((Same.x s4).trans x5))) ⟨p, dx, u, g, _, _, B, X1, X2, Y1, Y2, rfl, e5, x5 _ _ (nq (s4 _ _ up) (.inl (by intros; intro z; cases z))) (s4 _ _ up), ⟨ax, dx1, rfl, x5 _ _ (nq (s4 _ _ k1) (.inr ⟨_, _, _, _, _, _, rfl⟩)) (s4 _ _ k1)⟩, ⟨ay, dx2, rfl, x5 _ _ (nq (s4 _ _ k2) (.inr ⟨_, _, _, _, _, _, rfl⟩)) (s4 _ _ k2)⟩, x5 _ _ (nq eg (.inl (by intros; intro z; cases z))) eg, G⟩
abbrev s_Floor_has_corner : Stmt := inClass (top 43) 3
theorem sc_Floor_has_corner : FnScope ["self", "corner"] ["self", "corner"] (defScope s_Floor_has_corner) := ⟨rfl, rfl, rfl, by decide +kernel, rfl, by decide +kernel, by decide +kernel⟩

def sp_Floor_has_corner (Z : Zs) : Sp := fun vs H Q E =>
  ∃ v o t r b t' r' b', vs = [v, o] ∧ FloorAt Z H v t r b t' r' b' ∧ ((∃ c, CorAt H o c ∧ C4.bw 600 c ∧ ∀ B X1 X2 Y1 Y2 H', Same H H' → Gau B X1 X2 Y1 Y2 t r b t' r' b' → Q (.bl (inW B X1 X2 Y1 Y2 c)) H') ∨ BadCor Z H o ∧ ErX Z.c_BadCorner "corner" o H E)
theorem ok_Floor_has_corner (T : Txt Z mg) (h_in_window : Has P w Z.K mg base "in_window" 3 ["gauge", "corner"] (sp_in_window Z)) (h_check_corner : Has P w Z.K mg base "check_corner" 3 ["corner"] (sp_check_corner Z)) (D : AtM Z.K Z.c_Floor "has_corner" "Floor.has_corner" s_Floor_has_corner ["self", "corner"]) : HasM P w Z.K mg base Z.c_Floor "has_corner" 4 ["self", "corner"] (sp_Floor_has_corner Z) := by
  refine D.ok sc_Floor_has_corner (fun vs H Q E h => ?_) (fun cdv A outer s H vs Q E hr h => ?_)
  · obtain ⟨v, o, t, r, b, t', r', b', rfl, _⟩ := h
    rfl
  · refine ⟨_, (pss_cons (ps_expr (pe_h (E := ED E) h_check_corner hr (paW (takes_of rfl rfl rfl rfl)) (pa_cons (pv 1) pa_nil)))
      (pss_one (ps_ret (pe_h (E := ED E) h_in_window hr (paW (takes_of rfl rfl rfl rfl)) (pa_cons (pe_fld (pv 0) rfl) (pa_cons (pv 1) pa_nil)))))), ?_⟩
    try simp only [cxOf]
    obtain ⟨v, o, t, r, b, t', r', b', rfl, hf, ⟨c, hc, wc, q⟩ | ⟨bad, er⟩⟩ := h
    · walk_at "W"
      refine ⟨_, rfl, .inl ⟨⟨c, hc⟩, fun H1 s1 => ?_⟩⟩
      obtain ⟨a, dx, u, g, vx, vy, B, X1, X2, Y1, Y2, rfl, e1, e2, e3, e4, e5, G⟩ := hf.same s1
      obtain ⟨p, rfl, hp⟩ := hc.same s1
      walk_at "W"
      refine w_fld e1 T.c_Floor T.nf_Floor__gauge (ff_gauge _ _) ?_
      walk_at "W"
      exact ⟨g, p, B, X1, X2, Y1, Y2, c, rfl, e5, hp, G.wB, G.w1, G.w2, G.w3, G.w4, wc, q _ _ _ _ _ H1 s1 G⟩
    · walk_at "W"
      exact ⟨_, rfl, .inr ⟨bad, er⟩⟩
/-- Floor((x, y)), from its __init__'s promise -/
theorem k_mkFloor {w : Addr} {x y : V} {t r b t' r' b' : Int} {H : Hp} {Q : VK} {E : XK} (hw : H w = some (.tup [x, y])) (hx : NumAt Z.c_Root H x t r b) (hy : NumAt Z.c_Root H y t' r' b') (sm : Sm t r b) (sm' : Sm t' r' b') (wb : Bw 64 b) (wb' : Bw 64 b') (wt : Bw 400 t) (wr : Bw 400 r) (wt' : Bw 400 t') (wr' : Bw 400 r')
    (nb : barV t r b t' r' b' = .non) (ok : ∀ v H', Same H H' → FloorAt Z H' v t r b t' r' b' → Q v H') : MkC Z.c_Floor (sp_Floor_init Z) E [.ref w] H Q := by
  intro p dx nx ndx nex
  have s0 : Same H (upd (upd H dx (.own p)) p (.ins Z.c_Floor dx [])) := fun b o e => by
    rw [upd_ne (ne_of_none e nx), upd_ne (ne_of_none e ndx)]; exact e
  have sx : ∀ H', SameX p (upd (upd H dx (.own p)) p (.ins Z.c_Floor dx [])) H' → Same H H' := fun H' s b o e => s b o (ne_of_none e nx) (s0 b o e)
  exact ⟨p, dx, _, rfl, upd_same, .inr ⟨w, x, y, t, r, b, t', r', b', rfl, s0 _ _ hw, hx.same s0, hy.same s0, sm, sm', .inr ⟨wb, wb', wt, wr, wt', wr', nb, fun H' s e => ⟨rfl, ok _ H' (sx H' s) e⟩⟩⟩⟩
/-- whether a number lies between minus and plus (k + r) / 2 -/
def in1 (t r b k : Int) : Bool := decide (0 < sgn (k * b - t * 2) (1 * b - r * 2)) && decide (0 < sgn (k * b + t * 2) (1 * b + r * 2))
/-- whether a point lies in the window -/
def inside (t r b t' r' b' : Int) : Bool :=
  in1 t' r' b' 1 && (in1 (plus.t t r b t' r' b') (plus.r t r b t' r' b') (plus.b t r b t' r' b') 2 && (in1 t r b 1 && in1 (minus.t t' r' b' t r b) (minus.r t' r' b' t r b) (minus.b t' r' b' t r b) 2))
theorem in1_scale {t r b k s : Int} (hs : 0 < s) : in1 (t * s) (r * s) (b * s) k = in1 t r b k := by
  unfold in1
  rw [show k * (b * s) - t * s * 2 = (k * b - t * 2) * s by grind, show 1 * (b * s) - r * s * 2 = (1 * b - r * 2) * s by grind, show k * (b * s) + t * s * 2 = (k * b + t * 2) * s by grind, show 1 * (b * s) + r * s * 2 = (1 * b + r * 2) * s by grind, sgn_scale hs, sgn_scale hs]
theorem in1_neg {t r b k : Int} : in1 (-t) (-r) b k = in1 t r b k := by
  unfold in1
  rw [show k * b - -t * 2 = k * b + t * 2 by grind, show 1 * b - -r * 2 = 1 * b + r * 2 by grind, show k * b + -t * 2 = k * b - t * 2 by grind, show 1 * b + -r * 2 = 1 * b - r * 2 by grind, Bool.and_comm]
theorem in1_bes {t r B k : Int} : in1 t r (2 * B) k = bes t r (k * B) B := by
  unfold in1 bes
  rw [show k * (2 * B) - t * 2 = (k * B - t) * 2 by grind, show 1 * (2 * B) - r * 2 = (B - r) * 2 by grind, show k * (2 * B) + t * 2 = (k * B + t) * 2 by grind, show 1 * (2 * B) + r * 2 = (B + r) * 2 by grind, sgn_scale (by decide), sgn_scale (by decide)]
theorem in1_congr {t r b t' r' b' k s s' : Int} (hs : 0 < s) (hs' : 0 < s') (e1 : t * s = t' * s') (e2 : r * s = r' * s') (e3 : b * s = b' * s') : in1 t r b k = in1 t' r' b' k := by
  rw [← in1_scale hs, e1, e2, e3, in1_scale hs']
theorem inside_congr {t r b t' r' b' p q a p' q' a' s s' z z' : Int} (hs : 0 < s) (hs' : 0 < s') (hz : 0 < z) (hz' : 0 < z') (e1 : t * s = p * z) (e2 : r * s = q * z) (e3 : b * s = a * z) (e4 : t' * s' = p' * z') (e5 : r' * s' = q' * z') (e6 : b' * s' = a' * z') : inside t r b t' r' b' = inside p q a p' q' a' := by
  unfold inside
  rw [in1_congr hs' hz' e4 e5 e6, in1_congr hs hz e1 e2 e3]
  have m1 : ∀ x y X Y : Int, x * s = X * z → y * s' = Y * z' → (x * y) * (s * s') = (X * Y) * (z * z') := fun x y X Y h1 h2 => by
    rw [show (x * y) * (s * s') = (x * s) * (y * s') by grind, h1, h2]; grind
  have a1 := m1 _ _ _ _ e1 e6
  have a2 := m1 _ _ _ _ e3 e4
  have a3 := m1 _ _ _ _ e2 e6
  have a4 := m1 _ _ _ _ e3 e5
  have a5 := m1 _ _ _ _ e3 e6
  rw [in1_congr (t := plus.t t r b t' r' b') (r := plus.r t r b t' r' b') (b := plus.b t r b t' r' b') (t' := plus.t p q a p' q' a') (r' := plus.r p q a p' q' a') (b' := plus.b p q a p' q' a') (s := s * s') (s' := z * z') (Int.mul_pos hs hs') (Int.mul_pos hz hz')
      (by show (t * b' + t' * b) * (s * s') = (p * a' + p' * a) * (z * z'); grind) (by show (r * b' + r' * b) * (s * s') = (q * a' + q' * a) * (z * z'); grind) a5,
    in1_congr (t := minus.t t' r' b' t r b) (r := minus.r t' r' b' t r b) (b := minus.b t' r' b' t r b) (t' := minus.t p' q' a' p q a) (r' := minus.r p' q' a' p q a) (b' := minus.b p' q' a' p q a) (s := s * s') (s' := z * z') (Int.mul_pos hs hs') (Int.mul_pos hz hz')
      (by show (t' * b - t * b') * (s * s') = (p' * a - p * a') * (z * z'); grind) (by show (r' * b - r * b') * (s * s') = (q' * a - q * a') * (z * z'); grind) (by show (b' * b) * (s * s') = (a' * a) * (z * z'); grind)]
theorem ands (a b c d : Bool) : (a && (b && (c && d))) = (b && (c && (a && d))) := by cases a <;> cases b <;> cases c <;> cases d <;> rfl
/-- the program's test over a common bottom is the window's -/
theorem inW_inside {B X1 X2 Y1 Y2 t r b t' r' b' : Int} (G : Gau B X1 X2 Y1 Y2 t r b t' r' b') (hb : 0 < b) (hb' : 0 < b') (c : C4) :
    inW B X1 X2 Y1 Y2 c = inside (minus.t (2 * (conj c).a) ((conj c).b - (conj c).d) 2 t r b) (minus.r (2 * (conj c).a) ((conj c).b - (conj c).d) 2 t r b) (minus.b (2 * (conj c).a) ((conj c).b - (conj c).d) 2 t r b)
      (minus.t (2 * (conj c).c) ((conj c).b + (conj c).d) 2 t' r' b') (minus.r (2 * (conj c).c) ((conj c).b + (conj c).d) 2 t' r' b') (minus.b (2 * (conj c).c) ((conj c).b + (conj c).d) 2 t' r' b') := by
  have pB := G.pB
  have e1 := G.e1
  have e2 := G.e2
  have e3 := G.e3
  have e4 := G.e4
  rw [inside_congr (p := 2 * (B * c.a - X1)) (q := B * (c.d - c.b) - 2 * X2) (a := 2 * B) (p' := -2 * (B * c.c + Y1)) (q' := B * (c.b + c.d) - 2 * Y2) (a' := 2 * B) (s := B) (z := b) (s' := B) (z' := b') pB pB hb hb'
    (by show (2 * c.a * b - t * 2) * B = 2 * (B * c.a - X1) * b; grind) (by show ((c.d - c.b) * b - r * 2) * B = (B * (c.d - c.b) - 2 * X2) * b; grind) (by show 2 * b * B = 2 * B * b; grind)
    (by show (2 * -c.c * b' - t' * 2) * B = -2 * (B * c.c + Y1) * b'; grind) (by show ((c.d + c.b) * b' - r' * 2) * B = (B * (c.b + c.d) - 2 * Y2) * b'; grind) (by show 2 * b' * B = 2 * B * b'; grind)]
  unfold inW inside
  generalize 2 * (B * c.a - X1) = A
  generalize B * (c.d - c.b) - 2 * X2 = A'
  generalize -2 * (B * c.c + Y1) = C
  generalize B * (c.b + c.d) - 2 * Y2 = C'
  rw [in1_congr (t := plus.t A A' (2 * B) C C' (2 * B)) (r := plus.r A A' (2 * B) C C' (2 * B)) (b := plus.b A A' (2 * B) C C' (2 * B)) (t' := A + C) (r' := A' + C') (b' := 2 * B) (s := 1) (s' := 2 * B) (by decide) (by omega) (by show (A * (2 * B) + C * (2 * B)) * 1 = (A + C) * (2 * B); grind) (by show (A' * (2 * B) + C' * (2 * B)) * 1 = (A' + C') * (2 * B); grind) (by show 2 * B * (2 * B) * 1 = 2 * B * (2 * B); grind),
    in1_congr (t := minus.t C C' (2 * B) A A' (2 * B)) (r := minus.r C C' (2 * B) A A' (2 * B)) (b := minus.b C C' (2 * B) A A' (2 * B)) (t' := -(A - C)) (r' := -(A' - C')) (b' := 2 * B) (s := 1) (s' := 2 * B) (by decide) (by omega) (by show (C * (2 * B) - A * (2 * B)) * 1 = -(A - C) * (2 * B); grind) (by show (C' * (2 * B) - A' * (2 * B)) * 1 = -(A' - C') * (2 * B); grind) (by show 2 * B * (2 * B) * 1 = 2 * B * (2 * B); grind),
    in1_neg, in1_bes, in1_bes, in1_bes, in1_bes, Int.one_mul]
  exact ands _ _ _ _
/-! ### barred shifts, moved by stars of corners -/
theorem ev_star {a e t r b : Int} (hb : b ≠ 0) : EvB (minus.t (2 * a) e 2 t r b) (minus.r (2 * a) e 2 t r b) (minus.b (2 * a) e 2 t r b) ↔ EvB t r b := by
  constructor
  · rintro ⟨⟨k, h1⟩, m, h2⟩
    have h1 : 2 * (2 * a * b - t * 2) = (2 * k + 1) * (2 * b) := h1
    have h2 : 2 * (e * b - r * 2) = m * (2 * b) := h2
    exact ⟨⟨a - k - 1, by grind⟩, e - m, by grind⟩
  · rintro ⟨⟨k, h1⟩, m, h2⟩
    exact ⟨⟨a - k - 1, by show 2 * (2 * a * b - t * 2) = (2 * (a - k - 1) + 1) * (2 * b); grind⟩, e - m, by show 2 * (e * b - r * 2) = (e - m) * (2 * b); grind⟩
theorem od_star {a e c f g t r b t' r' b' : Int} (hg : e + f = 2 * g) : OdB (plus.t (minus.t (2 * a) e 2 t r b) (minus.r (2 * a) e 2 t r b) (minus.b (2 * a) e 2 t r b) (minus.t (2 * c) f 2 t' r' b') (minus.r (2 * c) f 2 t' r' b') (minus.b (2 * c) f 2 t' r' b')) (plus.r (minus.t (2 * a) e 2 t r b) (minus.r (2 * a) e 2 t r b) (minus.b (2 * a) e 2 t r b) (minus.t (2 * c) f 2 t' r' b') (minus.r (2 * c) f 2 t' r' b') (minus.b (2 * c) f 2 t' r' b')) (plus.b (minus.t (2 * a) e 2 t r b) (minus.r (2 * a) e 2 t r b) (minus.b (2 * a) e 2 t r b) (minus.t (2 * c) f 2 t' r' b') (minus.r (2 * c) f 2 t' r' b') (minus.b (2 * c) f 2 t' r' b')) ↔
    OdB (plus.t t r b t' r' b') (plus.r t r b t' r' b') (plus.b t r b t' r' b') := by
  constructor
  · rintro ⟨⟨m, h1⟩, k, h2⟩
    have h1 : (2 * a * b - t * 2) * (2 * b') + (2 * c * b' - t' * 2) * (2 * b) = m * (2 * b * (2 * b')) := h1
    have h2 : 2 * ((e * b - r * 2) * (2 * b') + (f * b' - r' * 2) * (2 * b)) = (2 * k + 1) * (2 * b * (2 * b')) := h2
    refine ⟨⟨a + c - m, ?_⟩, g - k - 1, ?_⟩
    · show t * b' + t' * b = (a + c - m) * (b * b')
      grind
    · show 2 * (r * b' + r' * b) = (2 * (g - k - 1) + 1) * (b * b')
      grind
  · rintro ⟨⟨m, h1⟩, k, h2⟩
    have h1 : t * b' + t' * b = m * (b * b') := h1
    have h2 : 2 * (r * b' + r' * b) = (2 * k + 1) * (b * b') := h2
    refine ⟨⟨a + c - m, ?_⟩, g - k - 1, ?_⟩
    · show (2 * a * b - t * 2) * (2 * b') + (2 * c * b' - t' * 2) * (2 * b) = (a + c - m) * (2 * b * (2 * b'))
      grind
    · show 2 * ((e * b - r * 2) * (2 * b') + (f * b' - r' * 2) * (2 * b)) = (2 * (g - k - 1) + 1) * (2 * b * (2 * b'))
      grind
theorem od_star' {a e c f g t r b t' r' b' : Int} (hg : f - e = 2 * g) : OdB (minus.t (minus.t (2 * c) f 2 t' r' b') (minus.r (2 * c) f 2 t' r' b') (minus.b (2 * c) f 2 t' r' b') (minus.t (2 * a) e 2 t r b) (minus.r (2 * a) e 2 t r b) (minus.b (2 * a) e 2 t r b)) (minus.r (minus.t (2 * c) f 2 t' r' b') (minus.r (2 * c) f 2 t' r' b') (minus.b (2 * c) f 2 t' r' b') (minus.t (2 * a) e 2 t r b) (minus.r (2 * a) e 2 t r b) (minus.b (2 * a) e 2 t r b)) (minus.b (minus.t (2 * c) f 2 t' r' b') (minus.r (2 * c) f 2 t' r' b') (minus.b (2 * c) f 2 t' r' b') (minus.t (2 * a) e 2 t r b) (minus.r (2 * a) e 2 t r b) (minus.b (2 * a) e 2 t r b)) ↔
    OdB (minus.t t' r' b' t r b) (minus.r t' r' b' t r b) (minus.b t' r' b' t r b) := by
  constructor
  · rintro ⟨⟨m, h1⟩, k, h2⟩
    have h1 : (2 * c * b' - t' * 2) * (2 * b) - (2 * a * b - t * 2) * (2 * b') = m * (2 * b' * (2 * b)) := h1
    have h2 : 2 * ((f * b' - r' * 2) * (2 * b) - (e * b - r * 2) * (2 * b')) = (2 * k + 1) * (2 * b' * (2 * b)) := h2
    refine ⟨⟨c - a - m, ?_⟩, g - k - 1, ?_⟩
    · show t' * b - t * b' = (c - a - m) * (b' * b)
      grind
    · show 2 * (r' * b - r * b') = (2 * (g - k - 1) + 1) * (b' * b)
      grind
  · rintro ⟨⟨m, h1⟩, k, h2⟩
    have h1 : t' * b - t * b' = m * (b' * b) := h1
    have h2 : 2 * (r' * b - r * b') = (2 * k + 1) * (b' * b) := h2
    refine ⟨⟨c - a - m, ?_⟩, g - k - 1, ?_⟩
    · show (2 * c * b' - t' * 2) * (2 * b) - (2 * a * b - t * 2) * (2 * b') = (c - a - m) * (2 * b' * (2 * b))
      grind
    · show 2 * ((f * b' - r' * 2) * (2 * b) - (e * b - r * 2) * (2 * b')) = (2 * (g - k - 1) + 1) * (2 * b' * (2 * b))
      grind
theorem decB_congr {p q : Prop} (h : p ↔ q) : decB p = decB q := congrArg decB (propext h)
theorem bar_star {t r b t' r' b' : Int} (hb : b ≠ 0) (hb' : b' ≠ 0) (E : C4) : barV (minus.t (2 * E.a) (E.b - E.d) 2 t r b) (minus.r (2 * E.a) (E.b - E.d) 2 t r b) (minus.b (2 * E.a) (E.b - E.d) 2 t r b) (minus.t (2 * E.c) (E.b + E.d) 2 t' r' b') (minus.r (2 * E.c) (E.b + E.d) 2 t' r' b') (minus.b (2 * E.c) (E.b + E.d) 2 t' r' b') = barV t r b t' r' b' := by
  unfold barV
  rw [decB_congr (ev_star hb), decB_congr (ev_star hb'), decB_congr (od_star (g := E.b) (by omega)), decB_congr (od_star' (g := E.d) (by omega))]
theorem bar_scale {t r b t' r' b' s s' : Int} (hs : s ≠ 0) (hs' : s' ≠ 0) : barV (t * s) (r * s) (b * s) (t' * s') (r' * s') (b' * s') = barV t r b t' r' b' := by
  have h0 : s * s' ≠ 0 := Int.mul_ne_zero hs hs'
  unfold barV
  rw [decB_congr (ev_scale hs), decB_congr (ev_scale hs')]
  rw [show plus.t (t * s) (r * s) (b * s) (t' * s') (r' * s') (b' * s') = plus.t t r b t' r' b' * (s * s') by unfold plus; dsimp only; grind, show plus.r (t * s) (r * s) (b * s) (t' * s') (r' * s') (b' * s') = plus.r t r b t' r' b' * (s * s') by unfold plus; dsimp only; grind, show plus.b (t * s) (r * s) (b * s) (t' * s') (r' * s') (b' * s') = plus.b t r b t' r' b' * (s * s') by unfold plus; dsimp only; grind,
    show minus.t (t' * s') (r' * s') (b' * s') (t * s) (r * s) (b * s) = minus.t t' r' b' t r b * (s * s') by unfold minus; dsimp only; grind, show minus.r (t' * s') (r' * s') (b' * s') (t * s) (r * s) (b * s) = minus.r t' r' b' t r b * (s * s') by unfold minus; dsimp only; grind, show minus.b (t' * s') (r' * s') (b' * s') (t * s) (r * s) (b * s) = minus.b t' r' b' t r b * (s * s') by unfold minus; dsimp only; grind]
  rw [decB_congr (od_scale h0), decB_congr (od_scale h0)]
theorem bar_low {t r b t' r' b' : Int} (hb : b ≠ 0) (hb' : b' ≠ 0) : barV (lowT t r b) (lowR t r b) (lowB t r b) (lowT t' r' b') (lowR t' r' b') (lowB t' r' b') = barV t r b t' r' b' := by
  obtain ⟨s, hs, e1, e2, e3⟩ := (low_is (t := t) (r := r) hb).s
  obtain ⟨s', hs', e1', e2', e3'⟩ := (low_is (t := t') (r := r') hb').s
  have k := bar_scale (t := lowT t r b) (r := lowR t r b) (b := lowB t r b) (t' := lowT t' r' b') (r' := lowR t' r' b') (b' := lowB t' r' b') hs hs'
  rw [← e1, ← e2, ← e3, ← e1', ← e2', ← e3'] at k
  exact k.symm
abbrev s__law_lines : Stmt := top 53
theorem sc__law_lines : FnScope ["x", "y"] ["x", "y"] (defScope s__law_lines) := ⟨rfl, rfl, rfl, by decide +kernel, rfl, by decide +kernel, by decide +kernel⟩

def sp__law_lines (Z : Zs) : Sp := fun vs H Q E =>
  ∃ px py t r b t' r' b', vs = [.ref px, .ref py] ∧ T3 H px t r b ∧ T3 H py t' r' b' ∧ B3 t r b ∧ B3 t' r' b' ∧ ∀ u p1 p2 H', Same H H' → H' u = some (.lst [.ref py, .ref p1, .ref px, .ref p2]) →
    T3 H' p1 (plus.t t r b t' r' b') (plus.r t r b t' r' b') (plus.b t r b t' r' b') → T3 H' p2 (minus.t t' r' b' t r b) (minus.r t' r' b' t r b) (minus.b t' r' b' t r b) → Q (.ref u) H'
theorem ok__law_lines (T : Txt Z mg) (h__law_minus : Has P w Z.K mg base "_law_minus" 1 ["one", "other"] (sp__law_minus Z)) (h__law_plus : Has P w Z.K mg base "_law_plus" 1 ["one", "other"] (sp__law_plus Z)) (D : AtF Z.K mg "_law_lines" "_law_lines" s__law_lines ["x", "y"]) : Has P w Z.K mg base "_law_lines" 2 ["x", "y"] (sp__law_lines Z) := by
  refine D.ok sc__law_lines (fun vs H Q E h => ?_) (fun cdv A outer s H vs Q E hr h => ?_)
  · obtain ⟨px, py, t, r, b, t', r', b', rfl, _⟩ := h
    rfl
  · refine ⟨_, (pss_one (ps_ret (pe_lst (pa_cons (pv 1) (pa_cons (pe_h (E := ED E) h__law_plus hr (paW (takes_of rfl rfl rfl rfl)) (pa_cons (pv 0) (pa_cons (pv 1) pa_nil))) (pa_cons (pv 0) (pa_cons (pe_h (E := ED E) h__law_minus hr (paW (takes_of rfl rfl rfl rfl)) (pa_cons (pv 1) (pa_cons (pv 0) pa_nil))) pa_nil))))))), ?_⟩
    try simp only [cxOf]
    obtain ⟨px, py, t, r, b, t', r', b', rfl, h1, h2, b1, b2, q⟩ := h
    walk_at "W"
    refine ⟨px, py, _, _, _, _, _, _, rfl, h1, h2, b1, b2, fun p1 H1 z1 s1 e1 => ?_⟩
    walk_at "W"
    refine ⟨py, px, _, _, _, _, _, _, rfl, s1 _ _ h2, s1 _ _ h1, b2, b1, fun p2 H2 z2 s2 e2 => ?_⟩
    walk_at "W"
    exact k_lst rfl fun u H3 hu s3 e3 => q u p1 p2 H3 (s1.trans (s2.trans s3)) e3 (s3 _ _ (s2 _ _ e1)) (s3 _ _ e2)
theorem all4 {a b c d : Bool} {i : Nat} (h : ∀ j x, j < i → [a, b, c, d][j]? = some x → x = true) (hi : i = 4) : (a && (b && (c && d))) = true := by
  subst hi
  rw [h 0 a (by decide) rfl, h 1 b (by decide) rfl, h 2 c (by decide) rfl, h 3 d (by decide) rfl]
  rfl
theorem some4 {a b c d : Bool} {i : Nat} (h : [a, b, c, d][i]? = some false) : (a && (b && (c && d))) = false := by
  rcases i with _ | _ | _ | _ | i
  · cases h; rfl
  · cases h; cases a <;> rfl
  · cases h; cases a <;> cases b <;> rfl
  · cases h; cases a <;> cases b <;> cases c <;> rfl
  · simp at h
abbrev s__law_inside : Stmt := top 54
theorem sc__law_inside : FnScope ["x", "y", "way", "number", "rim"] ["x", "y"] (defScope s__law_inside) := ⟨rfl, rfl, rfl, by decide +kernel, rfl, by decide +kernel, by decide +kernel⟩

def sp__law_inside (Z : Zs) : Sp := fun vs H Q E =>
  ∃ px py t r b t' r' b', vs = [.ref px, .ref py] ∧ T3 H px t r b ∧ T3 H py t' r' b' ∧ Bw 450 t ∧ Bw 450 r ∧ Bw 450 b ∧ Bw 450 t' ∧ Bw 450 r' ∧ Bw 450 b' ∧ ∀ H', Same H H' → Q (.bl (inside t r b t' r' b')) H'
theorem ok__law_inside (T : Txt Z mg) (h__law_lines : Has P w Z.K mg base "_law_lines" 2 ["x", "y"] (sp__law_lines Z)) (h__law_sign : Has P w Z.K mg base "_law_sign" 1 ["number"] (sp__law_sign Z)) (h__law_plus : Has P w Z.K mg base "_law_plus" 1 ["one", "other"] (sp__law_plus Z)) (h__law_minus : Has P w Z.K mg base "_law_minus" 1 ["one", "other"] (sp__law_minus Z)) (D : AtF Z.K mg "_law_inside" "_law_inside" s__law_inside ["x", "y"]) : Has P w Z.K mg base "_law_inside" 3 ["x", "y"] (sp__law_inside Z) := by
  refine D.ok sc__law_inside (fun vs H Q E h => ?_) (fun cdv A outer s H vs Q E hr h => ?_)
  · obtain ⟨px, py, t, r, b, t', r', b', rfl, _⟩ := h
    rfl
  · refine ⟨_, (pss_cons (ps_for (passes_of rfl) rfl (pi_enum rfl T.n_enumerate (pa_cons (pe_h (E := ED E) h__law_lines hr (paW (takes_of rfl rfl rfl rfl)) (pa_cons (pv 0) (pa_cons (pv 1) pa_nil))) pa_nil)) (pg_tup rfl (pgs_cons (pg_name (i := 2) sc__law_inside.nd rfl (Or.inl rfl)) (pgs_cons (pg_name (i := 3) sc__law_inside.nd rfl (Or.inl rfl)) pgs_nil))) (pss_cons (ps_set (i := 4) sc__law_inside.nd rfl (Or.inl rfl) (pe_tup (pa_cons pe_int (pa_cons pe_int (pa_cons pe_int pa_nil)))))
      (C8.pss_cut (ps_if (pt_cmpR op_eq (pe_op op_mod (pv 2) pe_int) pe_int (nomark _)) (pss_one (ps_set (i := 4) sc__law_inside.nd rfl (Or.inl rfl) (pe_tup (pa_cons pe_int (pa_cons pe_int (pa_cons pe_int pa_nil)))))) pss_nil)
      (pss_one (ps_if (PW.pt (pw_or (pt_cmpR op_le (pe_h (E := ED E) h__law_sign hr (paW (takes_of rfl rfl rfl rfl)) (pa_cons (pe_h (E := ED E) h__law_minus hr (paW (takes_of rfl rfl rfl rfl)) (pa_cons (pv 4) (pa_cons (pv 3) pa_nil))) pa_nil)) pe_int (nomark _)) (pw_or1 (pt_cmpR op_le (pe_h (E := ED E) h__law_sign hr (paW (takes_of rfl rfl rfl rfl)) (pa_cons (pe_h (E := ED E) h__law_plus hr (paW (takes_of rfl rfl rfl rfl)) (pa_cons (pv 4) (pa_cons (pv 3) pa_nil))) pa_nil)) pe_int (nomark _))))) (pss_one (ps_ret pe_bl)) pss_nil)))))
      (pss_one (ps_ret pe_bl))), ?_⟩
    try simp only [cxOf]
    obtain ⟨px, py, t, r, b, t', r', b', rfl, h1, h2, w1, w2, w3, w4, w5, w6, q⟩ := h
    have u9 : ∀ {n : Nat} {x : Int}, Bw n x → n ≤ 950 → Bw 950 x := fun h l => h.mono l
    have up : ∀ {x : Int}, Bw 950 x → Bw 1000 x := fun h => h.mono (by decide)
    walk_at "W"
    refine ⟨px, py, t, r, b, t', r', b', rfl, h1, h2, ⟨up (u9 w1 (by decide)), up (u9 w2 (by decide)), up (u9 w3 (by decide))⟩, ⟨up (u9 w4 (by decide)), up (u9 w5 (by decide)), up (u9 w6 (by decide))⟩, fun u p1 p2 H1 s1 e1 g1 g2 => ?_⟩
    have h1 := s1 _ _ h1
    have h2 := s1 _ _ h2
    unfold inside at q
    have q1 : inside t r b t' r' b' = (in1 t' r' b' 1 && (in1 (plus.t t r b t' r' b') (plus.r t r b t' r' b') (plus.b t r b t' r' b') 2 && (in1 t r b 1 && in1 (minus.t t' r' b' t r b) (minus.r t' r' b' t r b) (minus.b t' r' b' t r b) 2))) := rfl
    refine k_forEn (xs := [.ref py, .ref p1, .ref px, .ref p2]) (fun i σ' H' => (∃ a b c, σ' = [some (.ref px), some (.ref py), a, b, c]) ∧ Same H1 H' ∧ ∀ j x, j < i → [in1 t' r' b' 1, in1 (plus.t t r b t' r' b') (plus.r t r b t' r' b') (plus.b t r b t' r' b') 2, in1 t r b 1, in1 (minus.t t' r' b' t r b) (minus.r t' r' b' t r b) (minus.b t' r' b' t r b) 2][j]? = some x → x = true) (SqL.of e1) ⟨⟨none, none, none, rfl⟩, Same.refl _, fun j x h => absurd h (Nat.not_lt_zero _)⟩ (fun i σ' H' h => SqL.of (h.2.1 _ _ e1)) ?_ ?_
    · rintro i x σ' H2 TT H3 hx ⟨⟨ya, yb, yc, rfl⟩, s2, ok⟩ hT s3 eT
      have S := s2.trans s3
      obtain ⟨p, tt, rr, bb, k, rfl, tp, b1, b2, b3, fl, kk⟩ : ∃ p tt rr bb k, x = V.ref p ∧ T3 H3 p tt rr bb ∧ Bw 950 tt ∧ Bw 950 rr ∧ Bw 950 bb ∧ [in1 t' r' b' 1, in1 (plus.t t r b t' r' b') (plus.r t r b t' r' b') (plus.b t r b t' r' b') 2, in1 t r b 1, in1 (minus.t t' r' b' t r b) (minus.r t' r' b' t r b) (minus.b t' r' b' t r b) 2][i]? = some (in1 tt rr bb k) ∧ ((i % 2 = 1 ∧ k = 2) ∨ (i % 2 = 0 ∧ k = 1)) := by
        rcases i with _ | _ | _ | _ | i
        · cases hx; exact ⟨py, _, _, _, 1, rfl, S _ _ h2, u9 w4 (by decide), u9 w5 (by decide), u9 w6 (by decide), rfl, .inr ⟨rfl, rfl⟩⟩
        · cases hx; exact ⟨p1, _, _, _, 2, rfl, S _ _ g1, u9 ((w1.mul w6).add (w4.mul w3)) (by decide), u9 ((w2.mul w6).add (w5.mul w3)) (by decide), u9 (w3.mul w6) (by decide), rfl, .inl ⟨rfl, rfl⟩⟩
        · cases hx; exact ⟨px, _, _, _, 1, rfl, S _ _ h1, u9 w1 (by decide), u9 w2 (by decide), u9 w3 (by decide), rfl, .inr ⟨rfl, rfl⟩⟩
        · cases hx; exact ⟨p2, _, _, _, 2, rfl, S _ _ g2, u9 ((w4.mul w3).sub (w1.mul w6)) (by decide), u9 ((w5.mul w3).sub (w2.mul w6)) (by decide), u9 (w6.mul w3) (by decide), rfl, .inl ⟨rfl, rfl⟩⟩
        · simp at hx
      have wk : Bw 2 k := by rcases kk with ⟨_, rfl⟩ | ⟨_, rfl⟩ <;> (unfold Bw; decide)
      refine k_tupl2 eT rfl rfl ?_
      walk_at "W"
      refine k_tup rfl fun u1 H4 hu1 s4 e4 => ?_
      walk_at "W"
      refine w_cut (fun σ' H' => (∃ ru, σ' = [some (.ref px), some (.ref py), some (.int (i : Nat)), some (.ref p), some (.ref ru)] ∧ T3 H' ru k 1 2) ∧ Same H3 H') ?_ ?_
      · walk_at "W"
        rcases kk with ⟨im, rfl⟩ | ⟨im, rfl⟩
        · rw [show ((i : Nat) : Int) % 2 = 1 by omega]
          walk_at "W"
          refine k_tup rfl fun u2 H5 hu2 s5 e5 => ?_
          walk_at "W"
          exact ⟨⟨u2, rfl, e5⟩, s4.trans s5⟩
        · rw [show ((i : Nat) : Int) % 2 = 0 by omega]
          walk_at "W"
          exact ⟨⟨u1, rfl, e4⟩, s4⟩
      rintro σ' H5 ⟨⟨ru, rfl, er⟩, s5⟩
      have tp := s5 _ _ tp
      have B1 : B3 k 1 2 := ⟨wk.mono (by decide), Bw.one.mono (by decide), Bw.two.mono (by decide)⟩
      have B2 : B3 tt rr bb := ⟨up b1, up b2, up b3⟩
      walk_at "W"
      refine ⟨ru, p, _, _, _, _, _, _, rfl, er, tp, B1, B2, fun u3 H6 z6 s6 e6 => ?_⟩
      walk_at "W"
      refine ⟨u3, _, _, _, rfl, e6, ((wk.mul b3).sub (b1.mul Bw.two)).mono (by decide), ((Bw.one.mul b3).sub (b2.mul Bw.two)).mono (by decide), ?_⟩
      have i1 : in1 tt rr bb k = (decide (0 < sgn (minus.t k 1 2 tt rr bb) (minus.r k 1 2 tt rr bb)) && decide (0 < sgn (plus.t k 1 2 tt rr bb) (plus.r k 1 2 tt rr bb))) := rfl
      have no : in1 tt rr bb k = false → ∀ H', Same H1 H' → Q (.bl false) H' := fun e H' ss => by
        have := q H' (s1.trans ss)
        rw [e] at fl
        rw [some4 fl] at this
        exact this
      walk_at "W"
      by_cases c1 : sgn (minus.t k 1 2 tt rr bb) (minus.r k 1 2 tt rr bb) ≤ 0
      · rw [decide_eq_true c1]
        walk_at "W"
        exact no (by rw [i1, decide_eq_false (show ¬ 0 < sgn (minus.t k 1 2 tt rr bb) (minus.r k 1 2 tt rr bb) by omega), Bool.false_and]) _ (S.trans (s5.trans s6))
      rw [decide_eq_false c1]
      walk_at "W"
      refine ⟨ru, p, _, _, _, _, _, _, rfl, s6 _ _ er, s6 _ _ tp, B1, B2, fun u4 H7 z7 s7 e7 => ?_⟩
      walk_at "W"
      refine ⟨u4, _, _, _, rfl, e7, ((wk.mul b3).add (b1.mul Bw.two)).mono (by decide), ((Bw.one.mul b3).add (b2.mul Bw.two)).mono (by decide), ?_⟩
      walk_at "W"
      by_cases c2 : sgn (plus.t k 1 2 tt rr bb) (plus.r k 1 2 tt rr bb) ≤ 0
      · rw [decide_eq_true c2]
        walk_at "W"
        exact no (by rw [i1, decide_eq_false (show ¬ 0 < sgn (plus.t k 1 2 tt rr bb) (plus.r k 1 2 tt rr bb) by omega), Bool.and_false]) _ (S.trans (s5.trans (s6.trans s7)))
      rw [decide_eq_false c2]
      walk_at "W"
      refine ⟨⟨_, _, _, rfl⟩, S.trans (s5.trans (s6.trans s7)), fun j y hj hy => ?_⟩
      rcases Nat.lt_or_eq_of_le (Nat.lt_succ_iff.mp hj) with h | h
      · exact ok j y h hy
      · subst h
        rw [fl] at hy
        cases hy
        rw [i1, decide_eq_true (show 0 < sgn (minus.t k 1 2 tt rr bb) (minus.r k 1 2 tt rr bb) by omega), decide_eq_true (show 0 < sgn (plus.t k 1 2 tt rr bb) (plus.r k 1 2 tt rr bb) by omega)]
        rfl
    · rintro σ' H2 ⟨⟨ya, yb, yc, rfl⟩, s2, ok⟩
      walk_at "W"
      have := q H2 (s1.trans s2)
      rw [all4 ok rfl] at this
      exact this
abbrev s__law_is_odd_half : Stmt := top 55
theorem sc__law_is_odd_half : FnScope ["top", "bottom"] ["top", "bottom"] (defScope s__law_is_odd_half) := ⟨rfl, rfl, rfl, by decide +kernel, rfl, by decide +kernel, by decide +kernel⟩

def sp__law_is_odd_half (Z : Zs) : Sp := fun vs H Q E =>
  ∃ t b : Int, vs = [.int t, .int b] ∧ 0 < b ∧ Bw 1000 b ∧ Q (.bl (decB (∃ k, 2 * t = (2 * k + 1) * b))) H
theorem ok__law_is_odd_half (T : Txt Z mg)  (D : AtF Z.K mg "_law_is_odd_half" "_law_is_odd_half" s__law_is_odd_half ["top", "bottom"]) : Has P w Z.K mg base "_law_is_odd_half" 1 ["top", "bottom"] (sp__law_is_odd_half Z) := by
  refine D.ok sc__law_is_odd_half (fun vs H Q E h => ?_) (fun cdv A outer s H vs Q E hr h => ?_)
  · obtain ⟨t, b, rfl, _⟩ := h
    rfl
  · refine ⟨_, (pss_one (ps_ret (pe_and (pe_cmpR op_eq (pe_op op_mod (pe_callTy cn_int rfl T.n_int (by decide +kernel) (pa_cons (pe_op op_mulS pe_int (pv 0)) pa_nil)) (pv 1)) pe_int (nomark _)) (pe_one (pe_cmpR op_eq (pe_op op_mod (pe_op op_fdivW (pe_callTy cn_int rfl T.n_int (by decide +kernel) (pa_cons (pe_op op_mulS pe_int (pv 0)) pa_nil)) (pv 1)) pe_int) pe_int (nomark _)))))), ?_⟩
    try simp only [cxOf]
    obtain ⟨t, b, rfl, pb, wb, q⟩ := h
    have hb : b ≠ 0 := by omega
    have hdw : ∀ x : Int, CDivW x b := fun x => wide_div pb (wb.bd (by decide)) (by decide) (by decide)
    walk_at "W"
    by_cases c : 2 * t % b = 0
    · rw [decide_eq_true (vint0.mpr c)]
      obtain ⟨k, ek⟩ := (emod_iff hb).mp c
      repeat (first | walk_at "s" | refine w_I (hdw _) ?_)
      rw [ediv_of hb ek]
      by_cases c2 : k % 2 = 1
      · rw [decide_eq_true (vint0.mpr c2)]
        rw [decB_t ⟨k / 2, by rw [show 2 * (k / 2) + 1 = k by omega]; exact ek⟩] at q
        exact q
      · rw [decide_eq_false (fun z => c2 (vint0.mp z))]
        rw [decB_f (fun ⟨k', h⟩ => c2 (by
          have := Int.eq_of_mul_eq_mul_right hb (ek.symm.trans h)
          omega))] at q
        exact q
    · rw [decide_eq_false (fun z => c (vint0.mp z))]
      walk_at "W"
      rw [decB_f (fun ⟨k', h⟩ => c ((emod_iff hb).mpr ⟨_, h⟩))] at q
      exact q
def barF (a b c d : Bool) : V := if a = true then .int 0 else if b = true then .int 1 else if c = true then .int 2 else if d = true then .int 3 else .non
theorem barF_at {a b c d : Bool} {i : Nat} (h : ∀ j x, j < i → [a, b, c, d][j]? = some x → x = false) (e : [a, b, c, d][i]? = some true) : barF a b c d = .int (i : Nat) := by
  rcases i with _ | _ | _ | _ | i
  · cases e; rfl
  · have h0 := h 0 a (by decide) rfl
    cases e; subst h0; rfl
  · have h0 := h 0 a (by decide) rfl
    have h1 := h 1 b (by decide) rfl
    cases e; subst h0 h1; rfl
  · have h0 := h 0 a (by decide) rfl
    have h1 := h 1 b (by decide) rfl
    have h2 := h 2 c (by decide) rfl
    cases e; subst h0 h1 h2; rfl
  · simp at e
theorem barF_non {a b c d : Bool} (h : ∀ j x, j < 4 → [a, b, c, d][j]? = some x → x = false) : barF a b c d = .non := by
  have h0 := h 0 a (by decide) rfl
  have h1 := h 1 b (by decide) rfl
  have h2 := h 2 c (by decide) rfl
  have h3 := h 3 d (by decide) rfl
  subst h0 h1 h2 h3
  rfl
abbrev s__law_barred : Stmt := top 56
theorem sc__law_barred : FnScope ["x", "y", "way", "number", "top", "root", "bottom"] ["x", "y"] (defScope s__law_barred) := ⟨rfl, rfl, rfl, by decide +kernel, rfl, by decide +kernel, by decide +kernel⟩

def sp__law_barred (Z : Zs) : Sp := fun vs H Q E =>
  ∃ px py t r b t' r' b', vs = [.ref px, .ref py] ∧ T3 H px t r b ∧ T3 H py t' r' b' ∧ 0 < b ∧ 0 < b' ∧ Bw 450 t ∧ Bw 450 r ∧ Bw 450 b ∧ Bw 450 t' ∧ Bw 450 r' ∧ Bw 450 b' ∧ ∀ H', Same H H' → Q (barV t r b t' r' b') H'
theorem ok__law_barred (T : Txt Z mg) (h__law_lines : Has P w Z.K mg base "_law_lines" 2 ["x", "y"] (sp__law_lines Z)) (h__law_is_odd_half : Has P w Z.K mg base "_law_is_odd_half" 1 ["top", "bottom"] (sp__law_is_odd_half Z)) (D : AtF Z.K mg "_law_barred" "_law_barred" s__law_barred ["x", "y"]) : Has P w Z.K mg base "_law_barred" 3 ["x", "y"] (sp__law_barred Z) := by
  refine D.ok sc__law_barred (fun vs H Q E h => ?_) (fun cdv A outer s H vs Q E hr h => ?_)
  · obtain ⟨px, py, t, r, b, t', r', b', rfl, _⟩ := h
    rfl
  · refine ⟨_, (pss_cons (ps_for (passes_of rfl) rfl (pi_enum rfl T.n_enumerate (pa_cons (pe_h (E := ED E) h__law_lines hr (paW (takes_of rfl rfl rfl rfl)) (pa_cons (pv 0) (pa_cons (pv 1) pa_nil))) pa_nil)) (pg_tup rfl (pgs_cons (pg_name (i := 2) sc__law_barred.nd rfl (Or.inl rfl)) (pgs_cons (pg_name (i := 3) sc__law_barred.nd rfl (Or.inl rfl)) pgs_nil))) (pss_cons (ps_set (i := 4) sc__law_barred.nd rfl (Or.inl rfl) (pe_ix ix_seq (pv 3) pe_int (fun _ _ => rfl)))
      (pss_cons (ps_set (i := 5) sc__law_barred.nd rfl (Or.inl rfl) (pe_ix ix_seq (pv 3) pe_int (fun _ _ => rfl)))
      (pss_cons (ps_set (i := 6) sc__law_barred.nd rfl (Or.inl rfl) (pe_ix ix_seq (pv 3) pe_int (fun _ _ => rfl)))
      (pss_cons (ps_if (PW.pt (pw_and (pt_cmpR op_eq (pe_op op_mod (pv 2) pe_int) pe_int (nomark _)) (pw_and (pt_val (pe_h (E := ED E) h__law_is_odd_half hr (paW (takes_of rfl rfl rfl rfl)) (pa_cons (pv 4) (pa_cons (pv 6) pa_nil)))) (pw_and1 (pt_cmpR op_eq (pe_op op_mod (pe_callTy cn_int rfl T.n_int (by decide +kernel) (pa_cons (pe_op op_mulS pe_int (pv 5)) pa_nil)) (pv 6)) pe_int (nomark _)))))) (pss_one (ps_ret (pv 2))) pss_nil)
      (pss_one (ps_if (PW.pt (pw_and (pt_cmpR op_eq (pe_op op_mod (pv 2) pe_int) pe_int (nomark _)) (pw_and (pt_cmpR op_eq (pe_op op_mod (pe_callTy cn_int rfl T.n_int (by decide +kernel) (pa_cons (pv 4) pa_nil)) (pv 6)) pe_int (nomark _)) (pw_and1 (pt_val (pe_h (E := ED E) h__law_is_odd_half hr (paW (takes_of rfl rfl rfl rfl)) (pa_cons (pv 5) (pa_cons (pv 6) pa_nil)))))))) (pss_one (ps_ret (pv 2))) pss_nil)))))))
      (pss_one (ps_ret pe_non))), ?_⟩
    try simp only [cxOf]
    obtain ⟨px, py, t, r, b, t', r', b', rfl, h1, h2, pb, pb', w1, w2, w3, w4, w5, w6, q⟩ := h
    have u9 : ∀ {n : Nat} {x : Int}, Bw n x → n ≤ 1000 → Bw 1000 x := fun h l => h.mono l
    walk_at "W"
    refine ⟨px, py, t, r, b, t', r', b', rfl, h1, h2, ⟨u9 w1 (by decide), u9 w2 (by decide), u9 w3 (by decide)⟩, ⟨u9 w4 (by decide), u9 w5 (by decide), u9 w6 (by decide)⟩, fun u p1 p2 H1 s1 e1 g1 g2 => ?_⟩
    have h1 := s1 _ _ h1
    have h2 := s1 _ _ h2
    have q1 : ∀ H', Same H1 H' → Q (barF (decB (EvB t' r' b')) (decB (OdB (plus.t t r b t' r' b') (plus.r t r b t' r' b') (plus.b t r b t' r' b'))) (decB (EvB t r b)) (decB (OdB (minus.t t' r' b' t r b) (minus.r t' r' b' t r b) (minus.b t' r' b' t r b)))) H' := fun H' s => q H' (s1.trans s)
    refine k_forEn (xs := [.ref py, .ref p1, .ref px, .ref p2]) (fun i σ' H' => (∃ a b c d e, σ' = [some (.ref px), some (.ref py), a, b, c, d, e]) ∧ Same H1 H' ∧ ∀ j x, j < i → [decB (EvB t' r' b'), decB (OdB (plus.t t r b t' r' b') (plus.r t r b t' r' b') (plus.b t r b t' r' b')), decB (EvB t r b), decB (OdB (minus.t t' r' b' t r b) (minus.r t' r' b' t r b) (minus.b t' r' b' t r b))][j]? = some x → x = false) (SqL.of e1) ⟨⟨none, none, none, none, none, rfl⟩, Same.refl _, fun j x h => absurd h (Nat.not_lt_zero _)⟩ (fun i σ' H' h => SqL.of (h.2.1 _ _ e1)) ?_ ?_
    · rintro i x σ' H2 TT H3 hx ⟨⟨ya, yb, yc, yd, ye, rfl⟩, s2, ok⟩ hT s3 eT
      have S := s2.trans s3
      obtain ⟨p, tt, rr, bb, P, rfl, tp, pbb, b3, fl, kk⟩ : ∃ p tt rr bb P, x = V.ref p ∧ T3 H3 p tt rr bb ∧ 0 < bb ∧ Bw 1000 bb ∧ [decB (EvB t' r' b'), decB (OdB (plus.t t r b t' r' b') (plus.r t r b t' r' b') (plus.b t r b t' r' b')), decB (EvB t r b), decB (OdB (minus.t t' r' b' t r b) (minus.r t' r' b' t r b) (minus.b t' r' b' t r b))][i]? = some (decB P) ∧ ((i % 2 = 1 ∧ P = OdB tt rr bb) ∨ (i % 2 = 0 ∧ P = EvB tt rr bb)) := by
        rcases i with _ | _ | _ | _ | i
        · cases hx; exact ⟨py, _, _, _, _, rfl, S _ _ h2, pb', u9 w6 (by decide), rfl, .inr ⟨rfl, rfl⟩⟩
        · cases hx; exact ⟨p1, _, _, _, _, rfl, S _ _ g1, Int.mul_pos pb pb', u9 (w3.mul w6) (by decide), rfl, .inl ⟨rfl, rfl⟩⟩
        · cases hx; exact ⟨px, _, _, _, _, rfl, S _ _ h1, pb, u9 w3 (by decide), rfl, .inr ⟨rfl, rfl⟩⟩
        · cases hx; exact ⟨p2, _, _, _, _, rfl, S _ _ g2, Int.mul_pos pb' pb, u9 (w6.mul w3) (by decide), rfl, .inl ⟨rfl, rfl⟩⟩
        · simp at hx
      have hbn : bb ≠ 0 := by omega
      have tp' : H3 p = some (.tup [.int tt, .int rr, .int bb]) := tp
      have hit : P → ∀ H', Same H1 H' → Q (.int (i : Nat)) H' := fun e H' ss => by
        have := q1 H' ss
        rw [decB_t e] at fl
        rw [barF_at ok fl] at this
        exact this
      have miss : ¬ P → ∀ j y, j < i + 1 → [decB (EvB t' r' b'), decB (OdB (plus.t t r b t' r' b') (plus.r t r b t' r' b') (plus.b t r b t' r' b')), decB (EvB t r b), decB (OdB (minus.t t' r' b' t r b) (minus.r t' r' b' t r b) (minus.b t' r' b' t r b))][j]? = some y → y = false := fun e j y hj hy => by
        rcases Nat.lt_or_eq_of_le (Nat.lt_succ_iff.mp hj) with h | h
        · exact ok j y h hy
        · subst h
          rw [fl, decB_f e] at hy
          cases hy
          rfl
      refine k_tupl2 eT rfl rfl ?_
      walk_at "W"
      rcases kk with ⟨im, rfl⟩ | ⟨im, rfl⟩
      · rw [show ((i : Nat) : Int) % 2 = 1 by omega]
        walk_at "W"
        rw [show ((i : Nat) : Int) % 2 = 1 by omega]
        walk_at "W"
        by_cases c : ∃ m, tt = m * bb
        · rw [decide_eq_true (vint0.mpr ((emod_iff hbn).mpr c))]
          walk_at "W"
          refine ⟨_, _, rfl, pbb, b3, ?_⟩
          walk_at "W"
          by_cases c2 : ∃ k, 2 * rr = (2 * k + 1) * bb
          · rw [decB_t c2]
            walk_at "W"
            exact hit ⟨c, c2⟩ _ S
          · rw [decB_f c2]
            walk_at "W"
            exact ⟨⟨_, _, _, _, _, rfl⟩, S, miss fun z => c2 z.2⟩
        · rw [decide_eq_false (fun z => c ((emod_iff hbn).mp (vint0.mp z)))]
          walk_at "W"
          exact ⟨⟨_, _, _, _, _, rfl⟩, S, miss fun z => c z.1⟩
      · rw [show ((i : Nat) : Int) % 2 = 0 by omega]
        walk_at "W"
        refine ⟨_, _, rfl, pbb, b3, ?_⟩
        walk_at "W"
        by_cases c : ∃ k, 2 * tt = (2 * k + 1) * bb
        · rw [decB_t c]
          walk_at "W"
          by_cases c2 : ∃ m, 2 * rr = m * bb
          · rw [decide_eq_true (vint0.mpr ((emod_iff hbn).mpr c2))]
            walk_at "W"
            exact hit ⟨c, c2⟩ _ S
          · rw [decide_eq_false (fun z => c2 ((emod_iff hbn).mp (vint0.mp z)))]
            walk_at "W"
            rw [show ((i : Nat) : Int) % 2 = 0 by omega]
            walk_at "W"
            exact ⟨⟨_, _, _, _, _, rfl⟩, S, miss fun z => c2 z.2⟩
        · rw [decB_f c]
          walk_at "W"
          rw [show ((i : Nat) : Int) % 2 = 0 by omega]
          walk_at "W"
          exact ⟨⟨_, _, _, _, _, rfl⟩, S, miss fun z => c z.1⟩
    · rintro σ' H2 ⟨⟨ya, yb, yc, yd, ye, rfl⟩, s2, ok⟩
      walk_at "W"
      have := q1 H2 s2
      rw [barF_non ok] at this
      exact this
theorem sgn_pp {t r : Int} (h : 0 < t) (h' : 0 ≤ r) : 0 < sgn t r := by
  unfold sgn
  rw [if_neg (by omega), if_pos ⟨by omega, h'⟩]
  decide
theorem in1_pos {t r b k : Int} (h1 : 0 < k * b - t * 2) (h2 : 0 ≤ 1 * b - r * 2) (h3 : 0 < k * b + t * 2) (h4 : 0 ≤ 1 * b + r * 2) : in1 t r b k = true := by
  unfold in1
  rw [decide_eq_true (sgn_pp h1 h2), decide_eq_true (sgn_pp h3 h4)]
  rfl
/-- what a spot is drawn as -/
structure SpotB (w x0 x1 y0 y1 : Int) : Prop where
  p : 0 < w
  m : w ≤ 1000000000000000000
  a1 : -(2 * w) ≤ x0
  a2 : x0 ≤ 2 * w
  a3 : -w ≤ x1
  a4 : x1 ≤ w
  b1 : -(2 * w) ≤ y0
  b2 : y0 ≤ 2 * w
  b3 : -w ≤ y1
  b4 : y1 ≤ w
theorem spot_fifth {w x0 x1 y0 y1 : Int} (h : SpotB w x0 x1 y0 y1) : inside x0 x1 (5 * w) y0 y1 (5 * w) = true := by
  obtain ⟨p, m, a1, a2, a3, a4, b1, b2, b3, b4⟩ := h
  have pw : ∀ {z : Int}, 0 < z → 0 < 5 * w * z := fun h => Int.mul_pos (by omega) h
  unfold inside
  rw [in1_pos (t := y0) (r := y1) (by omega) (by omega) (by omega) (by omega), in1_pos (t := x0) (r := x1) (by omega) (by omega) (by omega) (by omega),
    in1_pos (t := plus.t x0 x1 (5 * w) y0 y1 (5 * w)) (r := plus.r x0 x1 (5 * w) y0 y1 (5 * w)) (b := plus.b x0 x1 (5 * w) y0 y1 (5 * w)) ?_ ?_ ?_ ?_,
    in1_pos (t := minus.t y0 y1 (5 * w) x0 x1 (5 * w)) (r := minus.r y0 y1 (5 * w) x0 x1 (5 * w)) (b := minus.b y0 y1 (5 * w) x0 x1 (5 * w)) ?_ ?_ ?_ ?_]
  · rfl
  · have := pw (z := 2 * (5 * w) - (y0 - x0) * 2) (by omega)
    show 0 < 2 * (5 * w * (5 * w)) - (y0 * (5 * w) - x0 * (5 * w)) * 2
    rw [show 2 * (5 * w * (5 * w)) - (y0 * (5 * w) - x0 * (5 * w)) * 2 = 5 * w * (2 * (5 * w) - (y0 - x0) * 2) by grind]; exact this
  · have := pw (z := 5 * w - (y1 - x1) * 2) (by omega)
    show 0 ≤ 1 * (5 * w * (5 * w)) - (y1 * (5 * w) - x1 * (5 * w)) * 2
    rw [show 1 * (5 * w * (5 * w)) - (y1 * (5 * w) - x1 * (5 * w)) * 2 = 5 * w * (5 * w - (y1 - x1) * 2) by grind]; omega
  · have := pw (z := 2 * (5 * w) + (y0 - x0) * 2) (by omega)
    show 0 < 2 * (5 * w * (5 * w)) + (y0 * (5 * w) - x0 * (5 * w)) * 2
    rw [show 2 * (5 * w * (5 * w)) + (y0 * (5 * w) - x0 * (5 * w)) * 2 = 5 * w * (2 * (5 * w) + (y0 - x0) * 2) by grind]; exact this
  · have := pw (z := 5 * w + (y1 - x1) * 2) (by omega)
    show 0 ≤ 1 * (5 * w * (5 * w)) + (y1 * (5 * w) - x1 * (5 * w)) * 2
    rw [show 1 * (5 * w * (5 * w)) + (y1 * (5 * w) - x1 * (5 * w)) * 2 = 5 * w * (5 * w + (y1 - x1) * 2) by grind]; omega
  · have := pw (z := 2 * (5 * w) - (x0 + y0) * 2) (by omega)
    show 0 < 2 * (5 * w * (5 * w)) - (x0 * (5 * w) + y0 * (5 * w)) * 2
    rw [show 2 * (5 * w * (5 * w)) - (x0 * (5 * w) + y0 * (5 * w)) * 2 = 5 * w * (2 * (5 * w) - (x0 + y0) * 2) by grind]; exact this
  · have := pw (z := 5 * w - (x1 + y1) * 2) (by omega)
    show 0 ≤ 1 * (5 * w * (5 * w)) - (x1 * (5 * w) + y1 * (5 * w)) * 2
    rw [show 1 * (5 * w * (5 * w)) - (x1 * (5 * w) + y1 * (5 * w)) * 2 = 5 * w * (5 * w - (x1 + y1) * 2) by grind]; omega
  · have := pw (z := 2 * (5 * w) + (x0 + y0) * 2) (by omega)
    show 0 < 2 * (5 * w * (5 * w)) + (x0 * (5 * w) + y0 * (5 * w)) * 2
    rw [show 2 * (5 * w * (5 * w)) + (x0 * (5 * w) + y0 * (5 * w)) * 2 = 5 * w * (2 * (5 * w) + (x0 + y0) * 2) by grind]; exact this
  · have := pw (z := 5 * w + (x1 + y1) * 2) (by omega)
    show 0 ≤ 1 * (5 * w * (5 * w)) + (x1 * (5 * w) + y1 * (5 * w)) * 2
    rw [show 1 * (5 * w * (5 * w)) + (x1 * (5 * w) + y1 * (5 * w)) * 2 = 5 * w * (5 * w + (x1 + y1) * 2) by grind]; omega
theorem spot_ninth {m n : Int} (h1 : -4 ≤ m) (h2 : m ≤ 4) (h3 : -4 ≤ n) (h4 : n ≤ 4) : inside m 0 9 n 0 9 = true ∧ barV m 0 9 n 0 9 = .non := by
  constructor
  · unfold inside
    rw [in1_pos (t := n) (by omega) (by omega) (by omega) (by omega), in1_pos (t := m) (by omega) (by omega) (by omega) (by omega),
      in1_pos (t := plus.t m 0 9 n 0 9) (r := plus.r m 0 9 n 0 9) (b := plus.b m 0 9 n 0 9) (by unfold plus; dsimp only; omega) (by unfold plus; dsimp only; omega) (by unfold plus; dsimp only; omega) (by unfold plus; dsimp only; omega),
      in1_pos (t := minus.t n 0 9 m 0 9) (r := minus.r n 0 9 m 0 9) (b := minus.b n 0 9 m 0 9) (by unfold minus; dsimp only; omega) (by unfold minus; dsimp only; omega) (by unfold minus; dsimp only; omega) (by unfold minus; dsimp only; omega)]
    rfl
  · have e1 : ∀ m : Int, -4 ≤ m → m ≤ 4 → ¬ EvB m 0 9 := by
      rintro m h1 h2 ⟨⟨k, e⟩, _⟩
      omega
    have e2 : ¬ OdB (plus.t m 0 9 n 0 9) (plus.r m 0 9 n 0 9) (plus.b m 0 9 n 0 9) := by
      rintro ⟨_, k, e⟩
      have e : 2 * (0 * 9 + 0 * 9) = (2 * k + 1) * (9 * 9) := e
      omega
    have e3 : ¬ OdB (minus.t n 0 9 m 0 9) (minus.r n 0 9 m 0 9) (minus.b n 0 9 m 0 9) := by
      rintro ⟨_, k, e⟩
      have e : 2 * (0 * 9 - 0 * 9) = (2 * k + 1) * (9 * 9) := e
      omega
    unfold barV
    rw [decB_f (e1 n h3 h4), decB_f e2, decB_f (e1 m h1 h2), decB_f e3]
    rfl
abbrev s__law_spot : Stmt := top 57
theorem sc__law_spot : FnScope ["state", "kind", "wide", "x", "y", "fine"] ["state"] (defScope s__law_spot) := ⟨rfl, rfl, rfl, by decide +kernel, rfl, by decide +kernel, by decide +kernel⟩

def sp__law_spot (Z : Zs) : Sp := fun vs H Q E =>
  ∃ st sc, vs = [.ref st] ∧ StA H st sc ∧ ∀ u px py t r b t' r' b' H', SameX st H H' → StA H' st sc → H' u = some (.tup [.ref px, .ref py]) → T3 H' px t r b → T3 H' py t' r' b' → 0 < b → 0 < b' → Bw 63 b → Bw 63 b' → Bw 62 t → Bw 62 r → Bw 62 t' → Bw 62 r' → inside t r b t' r' b' = true → barV t r b t' r' b' = .non → Q (.ref u) H'
theorem ok__law_spot (T : Txt Z mg) (h__law_barred : Has P w Z.K mg base "_law_barred" 3 ["x", "y"] (sp__law_barred Z)) (h__law_inside : Has P w Z.K mg base "_law_inside" 3 ["x", "y"] (sp__law_inside Z)) (h__law_between : Has P w Z.K mg base "_law_between" 3 ["state", "least", "most"] (sp__law_between Z)) (h__law_draw : Has P w Z.K mg base "_law_draw" 2 ["state", "many"] (sp__law_draw Z)) (D : AtF Z.K mg "_law_spot" "_law_spot" s__law_spot ["state"]) : Has P w Z.K mg base "_law_spot" 4 ["state"] (sp__law_spot Z) := by
  refine D.ok sc__law_spot (fun vs H Q E h => ?_) (fun cdv A outer s H vs Q E hr h => ?_)
  · obtain ⟨st, sc, rfl, _⟩ := h
    rfl
  · refine ⟨_, (pss_cons (ps_set (i := 1) sc__law_spot.nd rfl (Or.inl rfl) (pe_h (E := ED E) h__law_draw hr (paW (takes_of rfl rfl rfl rfl)) (pa_cons (pv 0) (pa_cons pe_int pa_nil))))
      (C8.pss_cut (ps_if (pt_cmpR op_eq (pv 1) pe_int (nomark _)) (pss_cons (ps_set (i := 2) sc__law_spot.nd rfl (Or.inl rfl) (pe_op op_add (pe_op op_mulS pe_int (pe_h (E := ED E) h__law_draw hr (paW (takes_of rfl rfl rfl rfl)) (pa_cons (pv 0) (pa_cons pe_int pa_nil)))) pe_int))
      (pss_cons (ps_set (i := 3) sc__law_spot.nd rfl (Or.inl rfl) (pe_tup (pa_cons (pe_h (E := ED E) h__law_between hr (paW (takes_of rfl rfl rfl rfl)) (pa_cons (pv 0) (pa_cons (pe_un un_neg (pv 2)) (pa_cons (pv 2) pa_nil)))) (pa_cons pe_int (pa_cons (pv 2) pa_nil)))))
      (pss_one (ps_set (i := 4) sc__law_spot.nd rfl (Or.inl rfl) (pe_tup (pa_cons (pe_h (E := ED E) h__law_between hr (paW (takes_of rfl rfl rfl rfl)) (pa_cons (pv 0) (pa_cons (pe_un un_neg (pv 2)) (pa_cons (pv 2) pa_nil)))) (pa_cons pe_int (pa_cons (pv 2) pa_nil)))))))) (pss_one (ps_if (pt_cmpR op_eq (pv 1) pe_int (nomark _)) (pss_cons (ps_set (i := 5) sc__law_spot.nd rfl (Or.inl rfl) (pe_op op_pow pe_int pe_int))
      (C8.pss_cut (ps_if (pt_cmpR op_eq (pe_h (E := ED E) h__law_draw hr (paW (takes_of rfl rfl rfl rfl)) (pa_cons (pv 0) (pa_cons pe_int pa_nil))) pe_int (nomark _)) (pss_one (ps_set (i := 5) sc__law_spot.nd rfl (Or.inl rfl) (pe_op op_pow pe_int pe_int))) pss_nil)
      (pss_cons (ps_set (i := 3) sc__law_spot.nd rfl (Or.inl rfl) (pe_tup (pa_cons (pe_op op_add (pe_op op_mulS (pe_h (E := ED E) h__law_between hr (paW (takes_of rfl rfl rfl rfl)) (pa_cons (pv 0) (pa_cons (pe_un un_neg pe_int) (pa_cons pe_int pa_nil)))) (pv 5)) (pe_op op_mulS pe_int (pe_op op_sub (pe_op op_mulS pe_int (pe_h (E := ED E) h__law_draw hr (paW (takes_of rfl rfl rfl rfl)) (pa_cons (pv 0) (pa_cons pe_int pa_nil)))) pe_int))) (pa_cons pe_int (pa_cons (pe_op op_mulS pe_int (pv 5)) pa_nil)))))
      (pss_cons (ps_set (i := 3) sc__law_spot.nd rfl (Or.inl rfl) (pe_tup (pa_cons (pe_ix ix_seq (pv 3) pe_int (fun _ _ => rfl)) (pa_cons (pe_op op_mulS (pe_h (E := ED E) h__law_between hr (paW (takes_of rfl rfl rfl rfl)) (pa_cons (pv 0) (pa_cons (pe_un un_neg pe_int) (pa_cons pe_int pa_nil)))) (pv 5)) (pa_cons (pe_ix ix_seq (pv 3) pe_int (fun _ _ => rfl)) pa_nil)))))
      (pss_cons (ps_set (i := 4) sc__law_spot.nd rfl (Or.inl rfl) (pe_tup (pa_cons (pe_op op_add (pe_op op_mulS (pe_h (E := ED E) h__law_between hr (paW (takes_of rfl rfl rfl rfl)) (pa_cons (pv 0) (pa_cons (pe_un un_neg pe_int) (pa_cons pe_int pa_nil)))) (pv 5)) (pe_op op_mulS pe_int (pe_op op_sub (pe_op op_mulS pe_int (pe_h (E := ED E) h__law_draw hr (paW (takes_of rfl rfl rfl rfl)) (pa_cons (pv 0) (pa_cons pe_int pa_nil)))) pe_int))) (pa_cons pe_int (pa_cons (pe_op op_mulS pe_int (pv 5)) pa_nil)))))
      (pss_one (ps_set (i := 4) sc__law_spot.nd rfl (Or.inl rfl) (pe_tup (pa_cons (pe_ix ix_seq (pv 4) pe_int (fun _ _ => rfl)) (pa_cons (pe_op op_mulS (pe_h (E := ED E) h__law_between hr (paW (takes_of rfl rfl rfl rfl)) (pa_cons (pv 0) (pa_cons (pe_un un_neg pe_int) (pa_cons pe_int pa_nil)))) (pv 5)) (pa_cons (pe_ix ix_seq (pv 4) pe_int (fun _ _ => rfl)) pa_nil))))))))))) (pss_cons (ps_set (i := 2) sc__law_spot.nd rfl (Or.inl rfl) (pe_op op_add pe_int (pe_h (E := ED E) h__law_draw hr (paW (takes_of rfl rfl rfl rfl)) (pa_cons (pv 0) (pa_cons pe_int pa_nil)))))
      (C8.pss_cut (ps_if (pt_cmpR op_eq (pv 1) pe_int (nomark _)) (pss_one (ps_set (i := 2) sc__law_spot.nd rfl (Or.inl rfl) (pe_op op_add pe_int (pe_h (E := ED E) h__law_draw hr (paW (takes_of rfl rfl rfl rfl)) (pa_cons (pv 0) (pa_cons (pe_op op_pow pe_int pe_int) pa_nil)))))) pss_nil)
      (pss_cons (ps_set (i := 3) sc__law_spot.nd rfl (Or.inl rfl) (pe_tup (pa_cons (pe_h (E := ED E) h__law_between hr (paW (takes_of rfl rfl rfl rfl)) (pa_cons (pv 0) (pa_cons (pe_op op_mulS (pe_un un_neg pe_int) (pv 2)) (pa_cons (pe_op op_mulS pe_int (pv 2)) pa_nil)))) (pa_cons (pe_h (E := ED E) h__law_between hr (paW (takes_of rfl rfl rfl rfl)) (pa_cons (pv 0) (pa_cons (pe_un un_neg (pv 2)) (pa_cons (pv 2) pa_nil)))) (pa_cons (pv 2) pa_nil)))))
      (pss_one (ps_set (i := 4) sc__law_spot.nd rfl (Or.inl rfl) (pe_tup (pa_cons (pe_h (E := ED E) h__law_between hr (paW (takes_of rfl rfl rfl rfl)) (pa_cons (pv 0) (pa_cons (pe_op op_mulS (pe_un un_neg pe_int) (pv 2)) (pa_cons (pe_op op_mulS pe_int (pv 2)) pa_nil)))) (pa_cons (pe_h (E := ED E) h__law_between hr (paW (takes_of rfl rfl rfl rfl)) (pa_cons (pv 0) (pa_cons (pe_un un_neg (pv 2)) (pa_cons (pv 2) pa_nil)))) (pa_cons (pv 2) pa_nil))))))))))))
      (C8.pss_cut (ps_if (pt_not (pt_val (pe_h (E := ED E) h__law_inside hr (paW (takes_of rfl rfl rfl rfl)) (pa_cons (pv 3) (pa_cons (pv 4) pa_nil))))) (pss_cons (ps_set (i := 3) sc__law_spot.nd rfl (Or.inl rfl) (pe_tup (pa_cons (pe_ix ix_seq (pv 3) pe_int (fun _ _ => rfl)) (pa_cons (pe_ix ix_seq (pv 3) pe_int (fun _ _ => rfl)) (pa_cons (pe_op op_mulS pe_int (pe_ix ix_seq (pv 3) pe_int (fun _ _ => rfl))) pa_nil)))))
      (pss_one (ps_set (i := 4) sc__law_spot.nd rfl (Or.inl rfl) (pe_tup (pa_cons (pe_ix ix_seq (pv 4) pe_int (fun _ _ => rfl)) (pa_cons (pe_ix ix_seq (pv 4) pe_int (fun _ _ => rfl)) (pa_cons (pe_op op_mulS pe_int (pe_ix ix_seq (pv 4) pe_int (fun _ _ => rfl))) pa_nil))))))) pss_nil)
      (pss_cons (ps_if (pt_cmpR op_notN (pe_h (E := ED E) h__law_barred hr (paW (takes_of rfl rfl rfl rfl)) (pa_cons (pv 3) (pa_cons (pv 4) pa_nil))) pe_non (nomark _)) (pss_one (ps_ret (pe_tup (pa_cons (pe_tup (pa_cons (pe_op op_sub (pe_op op_mod (pe_callTy cn_int rfl T.n_int (by decide +kernel) (pa_cons (pe_ix ix_seq (pv 3) pe_int (fun _ _ => rfl)) pa_nil)) pe_int) pe_int) (pa_cons pe_int (pa_cons pe_int pa_nil)))) (pa_cons (pe_tup (pa_cons (pe_op op_sub (pe_op op_mod (pe_callTy cn_int rfl T.n_int (by decide +kernel) (pa_cons (pe_ix ix_seq (pv 4) pe_int (fun _ _ => rfl)) pa_nil)) pe_int) pe_int) (pa_cons pe_int (pa_cons pe_int pa_nil)))) pa_nil))))) pss_nil)
      (pss_one (ps_ret (pe_tup (pa_cons (pv 3) (pa_cons (pv 4) pa_nil))))))))), ?_⟩
    try simp only [cxOf]
    obtain ⟨st, sc, rfl, hs, q⟩ := h
    have e20 : (3 : Int) ^ Int.toNat 20 = 3486784401 := by decide
    have e3 : (3 : Int) ^ Int.toNat 3 = 27 := by decide
    have e18 : (10 : Int) ^ Int.toNat 18 = 1000000000000000000 := by decide
    walk_at "W"
    refine k_draw' hs (by decide) (by decide) fun kd H1 kd0 kd1 x1 hs1 => ?_
    walk_at "W"
    refine w_cut (fun σ' H' => ∃ z1 z2 px py w x0 y0 xx yy, σ' = [some (.ref st), some (.int kd), z1, some (.ref px), some (.ref py), z2] ∧ SameX st H H' ∧ StA H' st sc ∧ T3 H' px x0 xx w ∧ T3 H' py y0 yy w ∧ SpotB w x0 xx y0 yy) ?_ ?_
    · walk_at "W"
      refine w_ite (fun _ => ?_) (fun _ => ?_)
      · walk_at "W"
        refine k_draw' hs1 (by decide) (by decide) fun n H2 n0 n1 x2 hs2 => ?_
        walk_at "W"
        refine k_between' hs2 (by omega) (by omega) fun a H3 l3 g3 x3 hs3 => ?_
        walk_at "W"
        refine k_tup rfl fun px H4 hpx s4 e4 => ?_
        have hs4 := hs3.same s4
        walk_at "W"
        refine k_between' hs4 (by omega) (by omega) fun c H5 l5 g5 x5 hs5 => ?_
        walk_at "W"
        refine k_tup rfl fun py H6 hpy s6 e6 => ?_
        walk_at "W"
        exact ⟨_, _, px, py, _, _, _, _, _, rfl, x1.trans (x2.trans (x3.trans ((Same.x s4).trans (x5.trans (Same.x s6))))), hs5.same s6, s6 _ _ ((Kps.st hs4 x5).tup e4), e6, ⟨by omega, by omega, by omega, by omega, by omega, by omega, by omega, by omega, by omega, by omega⟩⟩
      walk_at "W"
      refine w_ite (fun _ => ?_) (fun _ => ?_)
      · walk_at "W"
        rw [e20]
        refine w_cut (fun σ' H' => ∃ fi : Int, σ' = [some (.ref st), some (.int kd), none, none, none, some (.int fi)] ∧ SameX st H1 H' ∧ StA H' st sc ∧ (fi = 3486784401 ∨ fi = 27)) ?_ ?_
        · walk_at "W"
          refine k_draw' hs1 (by decide) (by decide) fun n H2 n0 n1 x2 hs2 => ?_
          walk_at "W"
          refine w_ite (fun _ => ?_) (fun _ => ?_)
          · walk_at "W"
            rw [e3]
            exact ⟨_, rfl, x2, hs2, .inr rfl⟩
          · walk_at "W"
            exact ⟨_, rfl, x2, hs2, .inl rfl⟩
        rintro σ' H2 ⟨fi, rfl, x2, hs2, hfi⟩
        have f1 : 27 ≤ fi := by rcases hfi with rfl | rfl <;> decide
        have f2 : fi ≤ 3486784401 := by rcases hfi with rfl | rfl <;> decide
        have fm : ∀ {a : Int}, -2 ≤ a → a ≤ 2 → -(2 * fi) ≤ a * fi ∧ a * fi ≤ 2 * fi := fun {a} h1 h2 => by
          have : a = -2 ∨ a = -1 ∨ a = 0 ∨ a = 1 ∨ a = 2 := by omega
          rcases this with rfl | rfl | rfl | rfl | rfl <;> constructor <;> omega
        have fn : ∀ {a : Int}, -1 ≤ a → a ≤ 1 → -fi ≤ a * fi ∧ a * fi ≤ fi := fun {a} h1 h2 => by
          have : a = -1 ∨ a = 0 ∨ a = 1 := by omega
          rcases this with rfl | rfl | rfl <;> constructor <;> omega
        walk_at "W"
        refine k_between' hs2 (by decide) (by decide) fun a H3 l3 g3 x3 hs3 => ?_
        walk_at "W"
        refine k_draw' hs3 (by decide) (by decide) fun d1 H4 d10 d11 x4 hs4 => ?_
        walk_at "W"
        refine k_tup rfl fun p1 H5 hp1 s5 e5 => ?_
        have hs5 := hs4.same s5
        walk_at "W"
        refine k_between' hs5 (by decide) (by decide) fun c H6 l6 g6 x6 hs6 => ?_
        have e5 := (Kps.st hs5 x6).tup e5
        walk_at "W"
        refine k_tup rfl fun p2 H7 hp2 s7 e7 => ?_
        have hs7 := hs6.same s7
        walk_at "W"
        refine k_between' hs7 (by decide) (by decide) fun a2 H8 l8 g8 x8 hs8 => ?_
        walk_at "W"
        refine k_draw' hs8 (by decide) (by decide) fun d2 H9 d20 d21 x9 hs9 => ?_
        have e7 := (Kps.st hs8 x9).tup ((Kps.st hs7 x8).tup e7)
        walk_at "W"
        refine k_tup rfl fun p3 H10 hp3 s10 e10 => ?_
        have hs10 := hs9.same s10
        have e7 := s10 _ _ e7
        walk_at "W"
        refine k_between' hs10 (by decide) (by decide) fun c2 H11 l11 g11 x11 hs11 => ?_
        have e10 := (Kps.st hs10 x11).tup e10
        have e7 := (Kps.st hs10 x11).tup e7
        walk_at "W"
        refine k_tup rfl fun p4 H12 hp4 s12 e12 => ?_
        walk_at "W"
        have m1 := fm l3 g3
        have m2 := fm l8 g8
        have m3 := fn l6 g6
        have m4 := fn l11 g11
        exact ⟨_, _, p2, p4, _, _, _, _, _, rfl, x1.trans (x2.trans (x3.trans (x4.trans ((Same.x s5).trans (x6.trans ((Same.x s7).trans (x8.trans (x9.trans ((Same.x s10).trans (x11.trans (Same.x s12))))))))))), hs11.same s12, s12 _ _ e7, e12, ⟨by omega, by omega, by omega, by omega, by omega, by omega, by omega, by omega, by omega, by omega⟩⟩
      · walk_at "W"
        refine k_draw' hs1 (by decide) (by decide) fun n H2 n0 n1 x2 hs2 => ?_
        walk_at "W"
        refine w_cut (fun σ' H' => ∃ wi : Int, σ' = [some (.ref st), some (.int kd), some (.int wi), none, none, none] ∧ SameX st H1 H' ∧ StA H' st sc ∧ 1 ≤ wi ∧ wi ≤ 1000000000000000000) ?_ ?_
        · walk_at "W"
          refine w_ite (fun _ => ?_) (fun _ => ?_)
          · walk_at "W"
            rw [e18]
            refine ⟨st, sc, _, rfl, hs2, by decide, (bw_of (n := 10 ^ 18) (k := 60) (by decide) (by decide)).bd (by decide), fun n3 H3 n30 n31 x3 hs3 => ?_⟩
            walk_at "W"
            exact ⟨_, rfl, x2.trans x3, hs3, by omega, by omega⟩
          · walk_at "W"
            exact ⟨_, rfl, x2, hs2, by omega, by omega⟩
        rintro σ' H3 ⟨wi, rfl, x3, hs3, wi1, wi2⟩
        walk_at "W"
        refine k_between' hs3 (by omega) (by omega) fun a H4 l4 g4 x4 hs4 => ?_
        walk_at "W"
        refine k_between' hs4 (by omega) (by omega) fun c H5 l5 g5 x5 hs5 => ?_
        walk_at "W"
        refine k_tup rfl fun p1 H6 hp1 s6 e6 => ?_
        have hs6 := hs5.same s6
        walk_at "W"
        refine k_between' hs6 (by omega) (by omega) fun a2 H7 l7 g7 x7 hs7 => ?_
        walk_at "W"
        refine k_between' hs7 (by omega) (by omega) fun c2 H8 l8 g8 x8 hs8 => ?_
        have e6 := (Kps.st hs7 x8).tup ((Kps.st hs6 x7).tup e6)
        walk_at "W"
        refine k_tup rfl fun p2 H9 hp2 s9 e9 => ?_
        walk_at "W"
        exact ⟨_, _, p1, p2, _, _, _, _, _, rfl, x1.trans (x3.trans (x4.trans (x5.trans ((Same.x s6).trans (x7.trans (x8.trans (Same.x s9))))))), hs8.same s9, s9 _ _ e6, e9, ⟨by omega, by omega, by omega, by omega, by omega, by omega, by omega, by omega, by omega, by omega⟩⟩
    rintro σ' H2 ⟨z1, z2, px, py, w, x0, y0, xx, yy, rfl, x2, hs2, hx, hy, sb⟩
    have sb' := sb
    obtain ⟨p, m, a1, a2, a3, a4, b1, b2, b3, b4⟩ := sb'
    have bw : ∀ {z : Int}, -2000000000000000000 ≤ z → z ≤ 2000000000000000000 → Bw 61 z := fun h1 h2 => bw_of (n := 2000000000000000000) (by omega) (by decide)
    have t1 : Bw 61 x0 := bw (by omega) (by omega)
    have t2 : Bw 61 xx := bw (by omega) (by omega)
    have t3 : Bw 61 y0 := bw (by omega) (by omega)
    have t4 : Bw 61 yy := bw (by omega) (by omega)
    have t5 : Bw 61 w := bw (by omega) (by omega)
    have u4 : ∀ {z : Int}, Bw 61 z → Bw 450 z := fun h => h.mono (by decide)
    unfold T3 at hx hy
    walk_at "W"
    refine w_cut (fun σ' H' => ∃ px py b, σ' = [some (.ref st), some (.int kd), z1, some (.ref px), some (.ref py), z2] ∧ Same H2 H' ∧ T3 H' px x0 xx b ∧ T3 H' py y0 yy b ∧ 0 < b ∧ Bw 63 b ∧ inside x0 xx b y0 yy b = true) ?_ ?_
    · walk_at "W"
      refine ⟨px, py, _, _, _, _, _, _, rfl, hx, hy, u4 t1, u4 t2, u4 t5, u4 t3, u4 t4, u4 t5, fun H3 s3 => ?_⟩
      have hx3 := s3 _ _ hx
      have hy3 := s3 _ _ hy
      cases ei : inside x0 xx w y0 yy w
      · walk_at "W"
        refine k_tup rfl fun q1 H4 hq1 s4 e4 => ?_
        have hy4 := s4 _ _ hy3
        walk_at "W"
        refine k_tup rfl fun q2 H5 hq2 s5 e5 => ?_
        walk_at "W"
        exact ⟨q1, q2, 5 * w, rfl, s3.trans (s4.trans s5), s5 _ _ e4, e5, by omega, bw_of (n := 5000000000000000000) (by omega) (by decide), spot_fifth sb⟩
      · walk_at "W"
        exact ⟨px, py, w, rfl, s3, hx3, hy3, p, t5.mono (by decide), ei⟩
    rintro σ' H3 ⟨px, py, b, rfl, s3, hx, hy, pb, wb, ins⟩
    have hs3 := hs2.same s3
    have X3 := x2.trans (Same.x s3)
    walk_at "W"
    refine ⟨px, py, _, _, _, _, _, _, rfl, hx, hy, pb, pb, u4 t1, u4 t2, wb.mono (by decide), u4 t3, u4 t4, wb.mono (by decide), fun H4 s4 => ?_⟩
    have hx := s4 _ _ hx
    have hy := s4 _ _ hy
    by_cases nb : barV x0 xx b y0 yy b = .non
    · rw [nb]
      walk_at "W"
      exact k_tup rfl fun u H5 hu s5 e5 => q u px py _ _ _ _ _ _ H5 (X3.trans (Same.x (s4.trans s5))) (hs3.same (s4.trans s5)) e5 (s5 _ _ hx) (s5 _ _ hy) pb pb wb wb (t1.mono (by decide)) (t2.mono (by decide)) (t3.mono (by decide)) (t4.mono (by decide)) ins nb
    · walk_at "W"
      rw [decide_eq_false nb]
      unfold T3 at hx hy
      walk_at "W"
      refine k_tup rfl fun q1 H5 hq1 s5 e5 => ?_
      have hy5 := s5 _ _ hy
      walk_at "W"
      refine k_tup rfl fun q2 H6 hq2 s6 e6 => ?_
      walk_at "W"
      have o := spot_ninth (m := x0 % 9 - 4) (n := y0 % 9 - 4) (by omega) (by omega) (by omega) (by omega)
      have w9 : Bw 63 (9 : Int) := by unfold Bw; decide
      have w4 : ∀ {z : Int}, -4 ≤ z → z ≤ 4 → Bw 62 z := fun h1 h2 => bw_of (n := 4) (by omega) (by decide)
      exact k_tup rfl fun u H7 hu s7 e7 => q u q1 q2 _ _ _ _ _ _ H7 (X3.trans (Same.x (s4.trans (s5.trans (s6.trans s7))))) (hs3.same (s4.trans (s5.trans (s6.trans s7)))) e7 (s7 _ _ (s6 _ _ e5)) (s7 _ _ e6) (by decide) (by decide) w9 w9 (w4 (by omega) (by omega)) (Bw.zero.mono (by decide)) (w4 (by omega) (by omega)) (Bw.zero.mono (by decide)) o.1 o.2
theorem bw_dbl {n : Nat} {x : Int} (h : Bw n x) : Bw (n + 1) (2 * x) := by
  unfold Bw at *
  rw [Int.natAbs_mul, Nat.pow_succ, show (2 : Int).natAbs = 2 from rfl]
  omega
/-- a shift that a law has made: a corner's star less a spot -/
structure ShB (T R B T' R' B' : Int) : Prop where
  p : 0 < B
  p' : 0 < B'
  wB : Bw 64 B
  wB' : Bw 64 B'
  wT : Bw 280 T
  wR : Bw 280 R
  wT' : Bw 280 T'
  wR' : Bw 280 R'
  nb : barV T R B T' R' B' = .non
theorem low_bw {n : Nat} {T R B : Int} (hB : B ≠ 0) (wT : Bw n T) (wR : Bw n R) (wB : Bw 64 B) : Bw n (lowT T R B) ∧ Bw n (lowR T R B) ∧ Bw 64 (lowB T R B) := by
  obtain ⟨s, hs, e1, e2, e3⟩ := (low_is (t := T) (r := R) hB).s
  exact ⟨bw_div wT e1 hs, bw_div wR e2 hs, bw_div wB e3 hs⟩
theorem k_floor {w : Addr} {x y : V} {T R B T' R' B' : Int} {H : Hp} {Q : VK} {E : XK} (sb : ShB T R B T' R' B') (hw : H w = some (.tup [x, y])) (hx : NumAt Z.c_Root H x (lowT T R B) (lowR T R B) (lowB T R B)) (hy : NumAt Z.c_Root H y (lowT T' R' B') (lowR T' R' B') (lowB T' R' B'))
    (ok : ∀ v H', Same H H' → FloorAt Z H' v (lowT T R B) (lowR T R B) (lowB T R B) (lowT T' R' B') (lowR T' R' B') (lowB T' R' B') → Q v H') : MkC Z.c_Floor (sp_Floor_init Z) E [.ref w] H Q := by
  obtain ⟨p, p', wB, wB', wT, wR, wT', wR', nb⟩ := sb
  have n1 : B ≠ 0 := by omega
  have n2 : B' ≠ 0 := by omega
  obtain ⟨a1, a2, a3⟩ := low_bw n1 wT wR wB
  obtain ⟨b1, b2, b3⟩ := low_bw n2 wT' wR' wB'
  exact k_mkFloor hw hx hy (Sm.low n1 (wT.mono (by decide)) (wR.mono (by decide)) (wB.mono (by decide))) (Sm.low n2 (wT'.mono (by decide)) (wR'.mono (by decide)) (wB'.mono (by decide))) a3 b3 (a1.mono (by decide)) (a2.mono (by decide)) (b1.mono (by decide)) (b2.mono (by decide)) (by rw [bar_low n1 n2]; exact nb) ok
abbrev s__law_shift : Stmt := top 59
theorem sc__law_shift : FnScope ["corner", "spot", "x", "y"] ["corner", "spot"] (defScope s__law_shift) := ⟨rfl, rfl, rfl, by decide +kernel, rfl, by decide +kernel, by decide +kernel⟩

def sp__law_shift (Z : Zs) : Sp := fun vs H Q E =>
  ∃ p c u px py t r b t' r' b', vs = [.ref p, .ref u] ∧ H p = some (.tup [.int (c : C4).a, .int c.b, .int c.c, .int c.d]) ∧ C4.bw 200 c ∧ H u = some (.tup [.ref px, .ref py]) ∧ T3 H px t r b ∧ T3 H py t' r' b' ∧ Bw 63 t ∧ Bw 63 r ∧ Bw 63 b ∧ Bw 63 t' ∧ Bw 63 r' ∧ Bw 63 b' ∧
    ∀ w q1 q2 H', Same H H' → H' w = some (.tup [.ref q1, .ref q2]) → T3 H' q1 (minus.t (2 * (conj c).a) ((conj c).b - (conj c).d) 2 t r b) (minus.r (2 * (conj c).a) ((conj c).b - (conj c).d) 2 t r b) (minus.b (2 * (conj c).a) ((conj c).b - (conj c).d) 2 t r b) →
      T3 H' q2 (minus.t (2 * (conj c).c) ((conj c).b + (conj c).d) 2 t' r' b') (minus.r (2 * (conj c).c) ((conj c).b + (conj c).d) 2 t' r' b') (minus.b (2 * (conj c).c) ((conj c).b + (conj c).d) 2 t' r' b') → Q (.ref w) H'
theorem ok__law_shift (T : Txt Z mg) (h__law_minus : Has P w Z.K mg base "_law_minus" 1 ["one", "other"] (sp__law_minus Z)) (h__law_star : Has P w Z.K mg base "_law_star" 1 ["corner"] (sp__law_star Z)) (D : AtF Z.K mg "_law_shift" "_law_shift" s__law_shift ["corner", "spot"]) : Has P w Z.K mg base "_law_shift" 2 ["corner", "spot"] (sp__law_shift Z) := by
  refine D.ok sc__law_shift (fun vs H Q E h => ?_) (fun cdv A outer s H vs Q E hr h => ?_)
  · obtain ⟨p, c, u, px, py, t, r, b, t', r', b', rfl, _⟩ := h
    rfl
  · refine ⟨_, (pss_cons (ps_asg (pe_h (E := ED E) h__law_star hr (paW (takes_of rfl rfl rfl rfl)) (pa_cons (pv 0) pa_nil)) (pg_tup rfl (pgs_cons (pg_name (i := 2) sc__law_shift.nd rfl (Or.inl rfl)) (pgs_cons (pg_name (i := 3) sc__law_shift.nd rfl (Or.inl rfl)) pgs_nil))))
      (pss_one (ps_ret (pe_tup (pa_cons (pe_h (E := ED E) h__law_minus hr (paW (takes_of rfl rfl rfl rfl)) (pa_cons (pv 2) (pa_cons (pe_ix ix_seq (pv 1) pe_int (fun _ _ => rfl)) pa_nil))) (pa_cons (pe_h (E := ED E) h__law_minus hr (paW (takes_of rfl rfl rfl rfl)) (pa_cons (pv 3) (pa_cons (pe_ix ix_seq (pv 1) pe_int (fun _ _ => rfl)) pa_nil))) pa_nil)))))), ?_⟩
    try simp only [cxOf]
    obtain ⟨p, c, u, px, py, t, r, b, t', r', b', rfl, hp, wc, hu, h1, h2, w1, w2, w3, w4, w5, w6, q⟩ := h
    have up : ∀ {x : Int}, Bw 63 x → Bw 1000 x := fun h => h.mono (by decide)
    have wj : C4.bw 200 (conj c) := ⟨wc.1, wc.2.2.2, wc.2.2.1.neg, wc.2.1⟩
    have B1 : B3 (2 * (conj c).a) ((conj c).b - (conj c).d) 2 := ⟨(Bw.two.mul wj.1).mono (by decide), (wj.2.1.sub wj.2.2.2).mono (by decide), Bw.two.mono (by decide)⟩
    have B2 : B3 (2 * (conj c).c) ((conj c).b + (conj c).d) 2 := ⟨(Bw.two.mul wj.2.2.1).mono (by decide), (wj.2.1.add wj.2.2.2).mono (by decide), Bw.two.mono (by decide)⟩
    walk_at "W"
    refine ⟨p, c, rfl, .inr hp, fun u1 H1 s1 hpl => ?_⟩
    obtain ⟨a1, a2, e1, g1, g2⟩ := hpl
    refine k_tupl2 e1 rfl rfl ?_
    have hu1 := s1 _ _ hu
    walk_at "W"
    refine ⟨a1, px, _, _, _, _, _, _, rfl, g1, s1 _ _ h1, B1, ⟨up w1, up w2, up w3⟩, fun q1 H2 z2 s2 e2 => ?_⟩
    have hu2 := s2 _ _ hu1
    walk_at "W"
    refine ⟨a2, py, _, _, _, _, _, _, rfl, s2 _ _ g2, s2 _ _ (s1 _ _ h2), B2, ⟨up w4, up w5, up w6⟩, fun q2 H3 z3 s3 e3 => ?_⟩
    walk_at "W"
    exact k_tup rfl fun w H4 hw s4 e4 => q w q1 q2 H4 (s1.trans (s2.trans (s3.trans s4))) e4 (s4 _ _ (s3 _ _ e2)) (s4 _ _ e3)
abbrev s__law_has : Stmt := top 61
theorem sc__law_has : FnScope ["shift", "corner", "x", "y"] ["shift", "corner"] (defScope s__law_has) := ⟨rfl, rfl, rfl, by decide +kernel, rfl, by decide +kernel, by decide +kernel⟩

def sp__law_has (Z : Zs) : Sp := fun vs H Q E =>
  ∃ w p c q1 q2 t r b t' r' b', vs = [.ref w, .ref p] ∧ H w = some (.tup [.ref q1, .ref q2]) ∧ T3 H q1 t r b ∧ T3 H q2 t' r' b' ∧ Bw 280 t ∧ Bw 280 r ∧ Bw 100 b ∧ Bw 280 t' ∧ Bw 280 r' ∧ Bw 100 b' ∧ H p = some (.tup [.int (c : C4).a, .int c.b, .int c.c, .int c.d]) ∧ C4.bw 130 c ∧
    ∀ H', Same H H' → Q (.bl (inside (minus.t (2 * (conj c).a) ((conj c).b - (conj c).d) 2 t r b) (minus.r (2 * (conj c).a) ((conj c).b - (conj c).d) 2 t r b) (minus.b (2 * (conj c).a) ((conj c).b - (conj c).d) 2 t r b)
        (minus.t (2 * (conj c).c) ((conj c).b + (conj c).d) 2 t' r' b') (minus.r (2 * (conj c).c) ((conj c).b + (conj c).d) 2 t' r' b') (minus.b (2 * (conj c).c) ((conj c).b + (conj c).d) 2 t' r' b'))) H'
theorem ok__law_has (T : Txt Z mg) (h__law_inside : Has P w Z.K mg base "_law_inside" 3 ["x", "y"] (sp__law_inside Z)) (h__law_minus : Has P w Z.K mg base "_law_minus" 1 ["one", "other"] (sp__law_minus Z)) (h__law_star : Has P w Z.K mg base "_law_star" 1 ["corner"] (sp__law_star Z)) (D : AtF Z.K mg "_law_has" "_law_has" s__law_has ["shift", "corner"]) : Has P w Z.K mg base "_law_has" 4 ["shift", "corner"] (sp__law_has Z) := by
  refine D.ok sc__law_has (fun vs H Q E h => ?_) (fun cdv A outer s H vs Q E hr h => ?_)
  · obtain ⟨w, p, c, q1, q2, t, r, b, t', r', b', rfl, _⟩ := h
    rfl
  · refine ⟨_, (pss_cons (ps_asg (pe_h (E := ED E) h__law_star hr (paW (takes_of rfl rfl rfl rfl)) (pa_cons (pv 1) pa_nil)) (pg_tup rfl (pgs_cons (pg_name (i := 2) sc__law_has.nd rfl (Or.inl rfl)) (pgs_cons (pg_name (i := 3) sc__law_has.nd rfl (Or.inl rfl)) pgs_nil))))
      (pss_one (ps_ret (pe_h (E := ED E) h__law_inside hr (paW (takes_of rfl rfl rfl rfl)) (pa_cons (pe_h (E := ED E) h__law_minus hr (paW (takes_of rfl rfl rfl rfl)) (pa_cons (pv 2) (pa_cons (pe_ix ix_seq (pv 0) pe_int (fun _ _ => rfl)) pa_nil))) (pa_cons (pe_h (E := ED E) h__law_minus hr (paW (takes_of rfl rfl rfl rfl)) (pa_cons (pv 3) (pa_cons (pe_ix ix_seq (pv 0) pe_int (fun _ _ => rfl)) pa_nil))) pa_nil)))))), ?_⟩
    try simp only [cxOf]
    obtain ⟨w, p, c, q1, q2, t, r, b, t', r', b', rfl, hw, h1, h2, w1, w2, w3, w4, w5, w6, hp, wc, q⟩ := h
    have up : ∀ {n : Nat} {x : Int}, Bw n x → n ≤ 1000 → Bw 1000 x := fun h l => h.mono l
    have wj : C4.bw 130 (conj c) := ⟨wc.1, wc.2.2.2, wc.2.2.1.neg, wc.2.1⟩
    have v1 := Bw.two.mul wj.1
    have v2 := wj.2.1.sub wj.2.2.2
    have v3 := Bw.two.mul wj.2.2.1
    have v4 := wj.2.1.add wj.2.2.2
    walk_at "W"
    refine ⟨p, c, rfl, .inr hp, fun u1 H1 s1 hpl => ?_⟩
    obtain ⟨a1, a2, e1, g1, g2⟩ := hpl
    refine k_tupl2 e1 rfl rfl ?_
    have hw1 := s1 _ _ hw
    walk_at "W"
    refine ⟨a1, q1, _, _, _, _, _, _, rfl, g1, s1 _ _ h1, ⟨up v1 (by decide), up v2 (by decide), up Bw.two (by decide)⟩, ⟨up w1 (by decide), up w2 (by decide), up w3 (by decide)⟩, fun z1 H2 f2 s2 e2 => ?_⟩
    have hw2 := s2 _ _ hw1
    walk_at "W"
    refine ⟨a2, q2, _, _, _, _, _, _, rfl, s2 _ _ g2, s2 _ _ (s1 _ _ h2), ⟨up v3 (by decide), up v4 (by decide), up Bw.two (by decide)⟩, ⟨up w4 (by decide), up w5 (by decide), up w6 (by decide)⟩, fun z2 H3 f3 s3 e3 => ?_⟩
    walk_at "W"
    exact ⟨z1, z2, _, _, _, _, _, _, rfl, s3 _ _ e2, e3, ((v1.mul w3).sub (w1.mul Bw.two)).mono (by decide), ((v2.mul w3).sub (w2.mul Bw.two)).mono (by decide), (Bw.two.mul w3).mono (by decide), ((v3.mul w6).sub (w4.mul Bw.two)).mono (by decide), ((v4.mul w6).sub (w5.mul Bw.two)).mono (by decide), (Bw.two.mul w6).mono (by decide), fun H4 s4 => q H4 (s1.trans (s2.trans (s3.trans s4)))⟩
/-- what a floor of a told shift says of a corner -/
def hasB (T R B T' R' B' : Int) (c : C4) : Bool :=
  inside (minus.t (2 * (conj c).a) ((conj c).b - (conj c).d) 2 T R B) (minus.r (2 * (conj c).a) ((conj c).b - (conj c).d) 2 T R B) (minus.b (2 * (conj c).a) ((conj c).b - (conj c).d) 2 T R B)
      (minus.t (2 * (conj c).c) ((conj c).b + (conj c).d) 2 T' R' B') (minus.r (2 * (conj c).c) ((conj c).b + (conj c).d) 2 T' R' B') (minus.b (2 * (conj c).c) ((conj c).b + (conj c).d) 2 T' R' B')
theorem inW_has {T R B T' R' B' D X1 X2 Y1 Y2 : Int} (p : 0 < B) (p' : 0 < B') (G : Gau D X1 X2 Y1 Y2 (lowT T R B) (lowR T R B) (lowB T R B) (lowT T' R' B') (lowR T' R' B') (lowB T' R' B')) (c : C4) : inW D X1 X2 Y1 Y2 c = hasB T R B T' R' B' c := by
  rw [inW_inside G (low_is (by omega)).pos (low_is (by omega)).pos]
  obtain ⟨s, hs, e1, e2, e3⟩ := low_pos (t := T) (r := R) p
  obtain ⟨s', hs', e1', e2', e3'⟩ := low_pos (t := T') (r := R') p'
  unfold hasB
  refine inside_congr (s := s) (z := 1) (s' := s') (z' := 1) hs hs' (by decide) (by decide) ?_ ?_ ?_ ?_ ?_ ?_
  · show (2 * (conj c).a * lowB T R B - lowT T R B * 2) * s = (2 * (conj c).a * B - T * 2) * 1
    grind
  · show (((conj c).b - (conj c).d) * lowB T R B - lowR T R B * 2) * s = (((conj c).b - (conj c).d) * B - R * 2) * 1
    grind
  · show 2 * lowB T R B * s = 2 * B * 1
    grind
  · show (2 * (conj c).c * lowB T' R' B' - lowT T' R' B' * 2) * s' = (2 * (conj c).c * B' - T' * 2) * 1
    grind
  · show (((conj c).b + (conj c).d) * lowB T' R' B' - lowR T' R' B' * 2) * s' = (((conj c).b + (conj c).d) * B' - R' * 2) * 1
    grind
  · show 2 * lowB T' R' B' * s' = 2 * B' * 1
    grind
theorem has_self {t r b t' r' b' : Int} (c : C4) (ins : inside t r b t' r' b' = true) : hasB (minus.t (2 * (conj c).a) ((conj c).b - (conj c).d) 2 t r b) (minus.r (2 * (conj c).a) ((conj c).b - (conj c).d) 2 t r b) (minus.b (2 * (conj c).a) ((conj c).b - (conj c).d) 2 t r b)
    (minus.t (2 * (conj c).c) ((conj c).b + (conj c).d) 2 t' r' b') (minus.r (2 * (conj c).c) ((conj c).b + (conj c).d) 2 t' r' b') (minus.b (2 * (conj c).c) ((conj c).b + (conj c).d) 2 t' r' b') c = true := by
  unfold hasB
  rw [inside_congr (p := t) (q := r) (a := b) (p' := t') (q' := r') (a' := b') (s := 1) (z := 4) (s' := 1) (z' := 4) (by decide) (by decide) (by decide) (by decide) ?_ ?_ ?_ ?_ ?_ ?_]
  · exact ins
  · show (2 * (conj c).a * (2 * b) - (2 * (conj c).a * b - t * 2) * 2) * 1 = t * 4
    grind
  · show (((conj c).b - (conj c).d) * (2 * b) - (((conj c).b - (conj c).d) * b - r * 2) * 2) * 1 = r * 4
    grind
  · show 2 * (2 * b) * 1 = b * 4
    grind
  · show (2 * (conj c).c * (2 * b') - (2 * (conj c).c * b' - t' * 2) * 2) * 1 = t' * 4
    grind
  · show (((conj c).b + (conj c).d) * (2 * b') - (((conj c).b + (conj c).d) * b' - r' * 2) * 2) * 1 = r' * 4
    grind
  · show 2 * (2 * b') * 1 = b' * 4
    grind
theorem sh_of {t r b t' r' b' : Int} {c : C4} (wc : C4.bw 130 c) (pb : 0 < b) (pb' : 0 < b') (w1 : Bw 63 b) (w2 : Bw 63 b') (w3 : Bw 62 t) (w4 : Bw 62 r) (w5 : Bw 62 t') (w6 : Bw 62 r') (nb : barV t r b t' r' b' = .non) :
    ShB (minus.t (2 * (conj c).a) ((conj c).b - (conj c).d) 2 t r b) (minus.r (2 * (conj c).a) ((conj c).b - (conj c).d) 2 t r b) (minus.b (2 * (conj c).a) ((conj c).b - (conj c).d) 2 t r b)
      (minus.t (2 * (conj c).c) ((conj c).b + (conj c).d) 2 t' r' b') (minus.r (2 * (conj c).c) ((conj c).b + (conj c).d) 2 t' r' b') (minus.b (2 * (conj c).c) ((conj c).b + (conj c).d) 2 t' r' b') := by
  have wj : C4.bw 130 (conj c) := ⟨wc.1, wc.2.2.2, wc.2.2.1.neg, wc.2.1⟩
  refine ⟨Int.mul_pos (by decide) pb, Int.mul_pos (by decide) pb', bw_dbl w1, bw_dbl w2, ((Bw.two.mul wj.1 |>.mul w1).sub (w3.mul Bw.two)).mono (by decide), ((wj.2.1.sub wj.2.2.2 |>.mul w1).sub (w4.mul Bw.two)).mono (by decide), ((Bw.two.mul wj.2.2.1 |>.mul w2).sub (w5.mul Bw.two)).mono (by decide), ((wj.2.1.add wj.2.2.2 |>.mul w2).sub (w6.mul Bw.two)).mono (by decide), ?_⟩
  rw [bar_star (by omega) (by omega)]
  exact nb
/-- the law's shift -/
def ShAt (H : Hp) (w : Addr) (T R B T' R' B' : Int) : Prop := ∃ q1 q2, H w = some (.tup [.ref q1, .ref q2]) ∧ T3 H q1 T R B ∧ T3 H q2 T' R' B'
theorem ShAt.kps {H H' : Hp} {w : Addr} {T R B T' R' B' : Int} (h : ShAt H w T R B T' R' B') (k : Kps H H') : ShAt H' w T R B T' R' B' := by
  obtain ⟨q1, q2, a, b, c⟩ := h
  exact ⟨q1, q2, k.tup a, k.tup b, k.tup c⟩
/-- floor.has_corner(corner) of a right corner -/
theorem k_has {v o : V} {T R B T' R' B' : Int} {H : Hp} {Q : VK} {E : XK} {c : C4} (hf : FloorAt Z H v (lowT T R B) (lowR T R B) (lowB T R B) (lowT T' R' B') (lowR T' R' B') (lowB T' R' B')) (p : 0 < B) (p' : 0 < B') (hc : CorAt H o c) (wc : C4.bw 130 c)
    (q : ∀ H', Same H H' → Q (.bl (hasB T R B T' R' B' c)) H') : sp_Floor_has_corner Z [v, o] H Q E :=
  ⟨v, o, _, _, _, _, _, _, rfl, hf, .inl ⟨c, hc, ⟨wc.1.mono (by decide), wc.2.1.mono (by decide), wc.2.2.1.mono (by decide), wc.2.2.2.mono (by decide)⟩, fun D X1 X2 Y1 Y2 H' s G => by rw [inW_has p p' G]; exact q H' s⟩⟩
theorem k_lhas {w : Addr} {o : Addr} {T R B T' R' B' : Int} {H : Hp} {Q : VK} {E : XK} {c : C4} (hs : ShAt H w T R B T' R' B') (sb : ShB T R B T' R' B') (hc : H o = some (.tup [.int c.a, .int c.b, .int c.c, .int c.d])) (wc : C4.bw 130 c)
    (q : ∀ H', Same H H' → Q (.bl (hasB T R B T' R' B' c)) H') : sp__law_has Z [.ref w, .ref o] H Q E := by
  obtain ⟨q1, q2, a, b, d⟩ := hs
  exact ⟨w, o, c, q1, q2, T, R, B, T', R', B', rfl, a, b, d, sb.wT, sb.wR, sb.wB.mono (by decide), sb.wT', sb.wR', sb.wB'.mono (by decide), hc, wc, q⟩
/-- the rows of corners that a law has made -/
def Cors (H : Hp) (vs : List V) : Prop := ∀ v ∈ vs, ∃ (p : Addr) (C : C4), v = .ref p ∧ H p = some (.tup [.int C.a, .int C.b, .int C.c, .int C.d]) ∧ C4.bw 100 C
theorem Cors.kps {H H' : Hp} {vs : List V} (h : Cors H vs) (k : Kps H H') : Cors H' vs := fun v hv => by
  obtain ⟨p, C, e, a, b⟩ := h v hv
  exact ⟨p, C, e, k.tup a, b⟩
theorem c4_100 {c : C4} (h : C4.bw 100 c) : C4.bw 130 c := ⟨h.1.mono (by decide), h.2.1.mono (by decide), h.2.2.1.mono (by decide), h.2.2.2.mono (by decide)⟩
theorem c4_84 {c : C4} (h : C4.bw 84 c) : C4.bw 130 c := ⟨h.1.mono (by decide), h.2.1.mono (by decide), h.2.2.1.mono (by decide), h.2.2.2.mono (by decide)⟩
theorem c4_200 {c : C4} (h : C4.bw 130 c) : C4.bw 200 c := ⟨h.1.mono (by decide), h.2.1.mono (by decide), h.2.2.1.mono (by decide), h.2.2.2.mono (by decide)⟩
-- needs W16
local macro_rules | `(tactic| walk_at "s") => `(tactic| first | with_reducible refine L2.My.w_forZT ?_)
theorem inW_hasB {t r b t' r' b' D X1 X2 Y1 Y2 : Int} (pb : 0 < b) (pb' : 0 < b') (G : Gau D X1 X2 Y1 Y2 t r b t' r' b') (c : C4) : inW D X1 X2 Y1 Y2 c = hasB t r b t' r' b' c := inW_inside G pb pb' c
theorem has_low {T R B T' R' B' : Int} (p : 0 < B) (p' : 0 < B') (c : C4) : hasB (lowT T R B) (lowR T R B) (lowB T R B) (lowT T' R' B') (lowR T' R' B') (lowB T' R' B') c = hasB T R B T' R' B' c := by
  obtain ⟨s, hs, e1, e2, e3⟩ := low_pos (t := T) (r := R) p
  obtain ⟨s', hs', e1', e2', e3'⟩ := low_pos (t := T') (r := R') p'
  unfold hasB
  refine inside_congr (s := s) (z := 1) (s' := s') (z' := 1) hs hs' (by decide) (by decide) ?_ ?_ ?_ ?_ ?_ ?_
  · show (2 * (conj c).a * lowB T R B - lowT T R B * 2) * s = (2 * (conj c).a * B - T * 2) * 1
    grind
  · show (((conj c).b - (conj c).d) * lowB T R B - lowR T R B * 2) * s = (((conj c).b - (conj c).d) * B - R * 2) * 1
    grind
  · show 2 * lowB T R B * s = 2 * B * 1
    grind
  · show (2 * (conj c).c * lowB T' R' B' - lowT T' R' B' * 2) * s' = (2 * (conj c).c * B' - T' * 2) * 1
    grind
  · show (((conj c).b + (conj c).d) * lowB T' R' B' - lowR T' R' B' * 2) * s' = (((conj c).b + (conj c).d) * B' - R' * 2) * 1
    grind
  · show 2 * lowB T' R' B' * s' = 2 * B' * 1
    grind
/-- the directions in which the next corner is there -/
def sidesF (f : C4 → Bool) (c : C4) (n : Nat) : List Int := ((List.range n).map Int.ofNat).filter fun d => f (stepC c d 1)
theorem sidesF_succ {f : C4 → Bool} {c : C4} {n : Nat} : sidesF f c (n + 1) = sidesF f c n ++ if f (stepC c n 1) then [(n : Int)] else [] := by
  unfold sidesF
  rw [List.range_succ, List.map_append, List.filter_append]
  simp only [List.map_cons, List.map_nil, List.filter_cons, List.filter_nil]
  rfl
theorem sidesF_len {f : C4 → Bool} {c : C4} {n : Nat} : (sidesF f c n).length ≤ n := by
  unfold sidesF
  exact Nat.le_trans (List.length_filter_le _ _) (by simp)
theorem sidesF_mem {f : C4 → Bool} {c : C4} {n : Nat} {d : Int} : d ∈ sidesF f c n ↔ ∃ k : Nat, k < n ∧ d = (k : Int) ∧ f (stepC c d 1) = true := by
  unfold sidesF
  rw [List.mem_filter, List.mem_map]
  constructor
  · rintro ⟨⟨k, hk, rfl⟩, h⟩
    exact ⟨k, List.mem_range.mp hk, rfl, h⟩
  · rintro ⟨k, hk, rfl, h⟩
    exact ⟨⟨k, List.mem_range.mpr hk, rfl⟩, h⟩
theorem sidesF_congr {f g : C4 → Bool} {c : C4} {n : Nat} (h : ∀ c, f c = g c) : sidesF f c n = sidesF g c n := by
  rw [show f = g from funext h]
theorem sidesF_eq {f : C4 → Bool} {c : C4} : sidesF f c 8 = (if f (stepC c 0 1) then [0] else []) ++ (if f (stepC c 1 1) then [1] else []) ++ (if f (stepC c 2 1) then [2] else []) ++ (if f (stepC c 3 1) then [3] else []) ++ (if f (stepC c 4 1) then [4] else []) ++ (if f (stepC c 5 1) then [5] else []) ++ (if f (stepC c 6 1) then [6] else []) ++ (if f (stepC c 7 1) then [7] else []) := by
  rw [sidesF_succ, sidesF_succ, sidesF_succ, sidesF_succ, sidesF_succ, sidesF_succ, sidesF_succ, sidesF_succ]
  show [] ++ _ ++ _ ++ _ ++ _ ++ _ ++ _ ++ _ ++ _ = _
  rw [List.nil_append]
  rfl
/-! the window over a common bottom: of three directions one behind the other, one is a side -/
def vecX (U V X : Int) (d : Nat) : Int := match d with
  | 0 => X + 2 * U | 1 => X - V | 2 => X | 3 => X + V | 4 => X - 2 * U | 5 => X + V | 6 => X | _ => X - V
def vecY (U V Y : Int) (d : Nat) : Int := match d with
  | 0 => Y | 1 => Y + V | 2 => Y - 2 * U | 3 => Y + V | 4 => Y | 5 => Y - V | 6 => Y + 2 * U | _ => Y - V
def wA (B X1 : Int) (c : C4) : Int := 2 * (B * c.a - X1)
def wB' (B X2 : Int) (c : C4) : Int := B * (c.d - c.b) - 2 * X2
def wC (B Y1 : Int) (c : C4) : Int := -2 * (B * c.c + Y1)
def wE (B Y2 : Int) (c : C4) : Int := B * (c.b + c.d) - 2 * Y2
theorem inW_winB {B X1 X2 Y1 Y2 : Int} {c : C4} : inW B X1 X2 Y1 Y2 c = winB B (wA B X1 c) (wB' B X2 c) (wC B Y1 c) (wE B Y2 c) := rfl
theorem inW_pell {B X1 X2 Y1 Y2 : Int} {c : C4} {p q : Int} (P : Pell p q) (far : ((wB' B X2 c).natAbs : Int) + (wE B Y2 c).natAbs + 3 * B.natAbs < q) : (inW B X1 X2 Y1 Y2 c = true ↔ WinL (wA B X1 c * q + wB' B X2 c * p) (wC B Y1 c * q + wE B Y2 c * p) (B * q) (B * p)) ∧
    ∀ d : Nat, d < 8 → (inW B X1 X2 Y1 Y2 (stepC c d 1) = true ↔ WinL (vecX (B * q) (B * p) (wA B X1 c * q + wB' B X2 c * p) d) (vecY (B * q) (B * p) (wC B Y1 c * q + wE B Y2 c * p) d) (B * q) (B * p)) := by
  refine ⟨win_pell P (by show ((wB' B X2 c).natAbs : Int) + (wE B Y2 c).natAbs + B.natAbs < q; omega), fun d hd => ?_⟩
  have key : ∀ {C : C4} {x y : Int}, (wB' B X2 C = wB' B X2 c ∨ wB' B X2 C = wB' B X2 c + B ∨ wB' B X2 C = wB' B X2 c - B) → (wE B Y2 C = wE B Y2 c ∨ wE B Y2 C = wE B Y2 c + B ∨ wE B Y2 C = wE B Y2 c - B) →
      wA B X1 C * q + wB' B X2 C * p = x → wC B Y1 C * q + wE B Y2 C * p = y → (inW B X1 X2 Y1 Y2 C = true ↔ WinL x y (B * q) (B * p)) := fun {C x y} k1 k2 e1 e2 => by
    rw [← e1, ← e2]
    refine win_pell P ?_
    show ((wB' B X2 C).natAbs : Int) + (wE B Y2 C).natAbs + B.natAbs < q
    generalize wB' B X2 C = u1 at *
    generalize wE B Y2 C = u2 at *
    generalize wB' B X2 c = u3 at *
    generalize wE B Y2 c = u4 at *
    omega
  have cs : d = 0 ∨ d = 1 ∨ d = 2 ∨ d = 3 ∨ d = 4 ∨ d = 5 ∨ d = 6 ∨ d = 7 := by omega
  rcases cs with rfl | rfl | rfl | rfl | rfl | rfl | rfl | rfl
  · refine key (.inl rfl) (.inl rfl) ?_ rfl
    show 2 * (B * (c.a + 1) - X1) * q + (B * (c.d - c.b) - 2 * X2) * p = 2 * (B * c.a - X1) * q + (B * (c.d - c.b) - 2 * X2) * p + 2 * (B * q)
    grind
  · refine key (.inr (.inr (by show B * (c.d - (c.b + 1)) - 2 * X2 = B * (c.d - c.b) - 2 * X2 - B; grind))) (.inr (.inl (by show B * (c.b + 1 + c.d) - 2 * Y2 = B * (c.b + c.d) - 2 * Y2 + B; grind))) ?_ ?_
    · show 2 * (B * c.a - X1) * q + (B * (c.d - (c.b + 1)) - 2 * X2) * p = 2 * (B * c.a - X1) * q + (B * (c.d - c.b) - 2 * X2) * p - B * p
      grind
    · show -2 * (B * c.c + Y1) * q + (B * (c.b + 1 + c.d) - 2 * Y2) * p = -2 * (B * c.c + Y1) * q + (B * (c.b + c.d) - 2 * Y2) * p + B * p
      grind
  · refine key (.inl rfl) (.inl rfl) rfl ?_
    show -2 * (B * (c.c + 1) + Y1) * q + (B * (c.b + c.d) - 2 * Y2) * p = -2 * (B * c.c + Y1) * q + (B * (c.b + c.d) - 2 * Y2) * p - 2 * (B * q)
    grind
  · refine key (.inr (.inl (by show B * (c.d + 1 - c.b) - 2 * X2 = B * (c.d - c.b) - 2 * X2 + B; grind))) (.inr (.inl (by show B * (c.b + (c.d + 1)) - 2 * Y2 = B * (c.b + c.d) - 2 * Y2 + B; grind))) ?_ ?_
    · show 2 * (B * c.a - X1) * q + (B * (c.d + 1 - c.b) - 2 * X2) * p = 2 * (B * c.a - X1) * q + (B * (c.d - c.b) - 2 * X2) * p + B * p
      grind
    · show -2 * (B * c.c + Y1) * q + (B * (c.b + (c.d + 1)) - 2 * Y2) * p = -2 * (B * c.c + Y1) * q + (B * (c.b + c.d) - 2 * Y2) * p + B * p
      grind
  · refine key (.inl rfl) (.inl rfl) ?_ rfl
    show 2 * (B * (c.a + -1) - X1) * q + (B * (c.d - c.b) - 2 * X2) * p = 2 * (B * c.a - X1) * q + (B * (c.d - c.b) - 2 * X2) * p - 2 * (B * q)
    grind
  · refine key (.inr (.inl (by show B * (c.d - (c.b + -1)) - 2 * X2 = B * (c.d - c.b) - 2 * X2 + B; grind))) (.inr (.inr (by show B * (c.b + -1 + c.d) - 2 * Y2 = B * (c.b + c.d) - 2 * Y2 - B; grind))) ?_ ?_
    · show 2 * (B * c.a - X1) * q + (B * (c.d - (c.b + -1)) - 2 * X2) * p = 2 * (B * c.a - X1) * q + (B * (c.d - c.b) - 2 * X2) * p + B * p
      grind
    · show -2 * (B * c.c + Y1) * q + (B * (c.b + -1 + c.d) - 2 * Y2) * p = -2 * (B * c.c + Y1) * q + (B * (c.b + c.d) - 2 * Y2) * p - B * p
      grind
  · refine key (.inl rfl) (.inl rfl) rfl ?_
    show -2 * (B * (c.c + -1) + Y1) * q + (B * (c.b + c.d) - 2 * Y2) * p = -2 * (B * c.c + Y1) * q + (B * (c.b + c.d) - 2 * Y2) * p + 2 * (B * q)
    grind
  · refine key (.inr (.inr (by show B * (c.d + -1 - c.b) - 2 * X2 = B * (c.d - c.b) - 2 * X2 - B; grind))) (.inr (.inr (by show B * (c.b + (c.d + -1)) - 2 * Y2 = B * (c.b + c.d) - 2 * Y2 - B; grind))) ?_ ?_
    · show 2 * (B * c.a - X1) * q + (B * (c.d + -1 - c.b) - 2 * X2) * p = 2 * (B * c.a - X1) * q + (B * (c.d - c.b) - 2 * X2) * p - B * p
      grind
    · show -2 * (B * c.c + Y1) * q + (B * (c.b + (c.d + -1)) - 2 * Y2) * p = -2 * (B * c.c + Y1) * q + (B * (c.b + c.d) - 2 * Y2) * p - B * p
      grind
theorem gapW {B X1 X2 Y1 Y2 : Int} {c : C4} (hB : 0 < B) (w : inW B X1 X2 Y1 Y2 c = true) (d : Nat) (hd : d < 8) : inW B X1 X2 Y1 Y2 (stepC c d 1) = true ∨ inW B X1 X2 Y1 Y2 (stepC c ((d + 1) % 8 : Nat) 1) = true ∨ inW B X1 X2 Y1 Y2 (stepC c ((d + 2) % 8 : Nat) 1) = true := by
  obtain ⟨p, q, P, far⟩ := pell_far ((wB' B X2 c).natAbs + (wE B Y2 c).natAbs + 3 * B.natAbs)
  obtain ⟨k0, k⟩ := inW_pell (B := B) (X1 := X1) (X2 := X2) (Y1 := Y1) (Y2 := Y2) (c := c) P (by omega)
  rw [k d hd, k _ (Nat.mod_lt _ (by decide)), k _ (Nat.mod_lt _ (by decide))]
  have w := k0.mp w
  have u : 0 < B * q := Int.mul_pos hB P.q
  have lo : 7 * (B * q) < 5 * (B * p) := by
    have := Int.mul_lt_mul_of_pos_left P.lo hB
    grind
  have hi : 2 * (B * p) ≤ 3 * (B * q) := by
    have := Int.mul_le_mul_of_nonneg_left P.hi (Int.le_of_lt hB)
    grind
  have cs : d = 0 ∨ d = 1 ∨ d = 2 ∨ d = 3 ∨ d = 4 ∨ d = 5 ∨ d = 6 ∨ d = 7 := by omega
  rcases cs with rfl | rfl | rfl | rfl | rfl | rfl | rfl | rfl
  · exact w.gap0 u lo hi
  · exact w.gap1 u lo hi
  · exact w.gap2 u lo hi
  · exact w.gap3 u lo hi
  · exact w.gap4 u lo hi
  · exact w.gap5 u lo hi
  · exact w.gap6 u lo hi
  · exact w.gap7 u lo hi
/-- of three directions one behind the other, one is a side -/
def Gap (f : C4 → Bool) (c : C4) : Prop := ∀ d : Nat, d < 8 → f (stepC c d 1) = true ∨ f (stepC c ((d + 1) % 8 : Nat) 1) = true ∨ f (stepC c ((d + 2) % 8 : Nat) 1) = true
theorem gapH {t r b t' r' b' D X1 X2 Y1 Y2 : Int} {c : C4} (pb : 0 < b) (pb' : 0 < b') (G : Gau D X1 X2 Y1 Y2 t r b t' r' b') (w : hasB t r b t' r' b' c = true) : Gap (hasB t r b t' r' b') c := fun d hd => by
  have := gapW G.pB (by rw [inW_hasB pb pb' G]; exact w) d hd
  rw [inW_hasB pb pb' G, inW_hasB pb pb' G, inW_hasB pb pb' G] at this
  exact this
def chkB (a b c d e f g h : Bool) : Bool :=
  let L : List Int := (if a then [0] else []) ++ (if b then [1] else []) ++ (if c then [2] else []) ++ (if d then [3] else []) ++ (if e then [4] else []) ++ (if f then [5] else []) ++ (if g then [6] else []) ++ (if h then [7] else [])
  !((a || b || c) && (b || c || d) && (c || d || e) && (d || e || f) && (e || f || g) && (f || g || h) && (g || h || a) && (h || a || b)) ||
    (decide (3 ≤ L.length) && (List.range 8).all fun i => decide (L.length ≤ i) || (decide (L.getD i 0 % 4 ≠ L.getD ((i + 1) % L.length) 0 % 4) && decide ((L.getD ((i + 1) % L.length) 0 - L.getD i 0) % 8 ≤ 3)))
theorem chk_all : ∀ a b c d e f g h : Bool, chkB a b c d e f g h = true := by decide +kernel
/-- two sides one behind the other: unlike lines, at most three eighths apart; there are three sides or more -/
theorem sidesF_next {f : C4 → Bool} {c : C4} (g : Gap f c) : 3 ≤ (sidesF f c 8).length ∧ ∀ i, i < (sidesF f c 8).length → (sidesF f c 8).getD i 0 % 4 ≠ (sidesF f c 8).getD ((i + 1) % (sidesF f c 8).length) 0 % 4 ∧ ((sidesF f c 8).getD ((i + 1) % (sidesF f c 8).length) 0 - (sidesF f c 8).getD i 0) % 8 ≤ 3 := by
  have l8 := sidesF_len (f := f) (c := c) (n := 8)
  rw [sidesF_eq] at l8 ⊢
  have c0 : f (stepC c 0 1) = true ∨ f (stepC c 1 1) = true ∨ f (stepC c 2 1) = true := g 0 (by decide)
  have c1 : f (stepC c 1 1) = true ∨ f (stepC c 2 1) = true ∨ f (stepC c 3 1) = true := g 1 (by decide)
  have c2 : f (stepC c 2 1) = true ∨ f (stepC c 3 1) = true ∨ f (stepC c 4 1) = true := g 2 (by decide)
  have c3 : f (stepC c 3 1) = true ∨ f (stepC c 4 1) = true ∨ f (stepC c 5 1) = true := g 3 (by decide)
  have c4 : f (stepC c 4 1) = true ∨ f (stepC c 5 1) = true ∨ f (stepC c 6 1) = true := g 4 (by decide)
  have c5 : f (stepC c 5 1) = true ∨ f (stepC c 6 1) = true ∨ f (stepC c 7 1) = true := g 5 (by decide)
  have c6 : f (stepC c 6 1) = true ∨ f (stepC c 7 1) = true ∨ f (stepC c 0 1) = true := g 6 (by decide)
  have c7 : f (stepC c 7 1) = true ∨ f (stepC c 0 1) = true ∨ f (stepC c 1 1) = true := g 7 (by decide)
  have k := chk_all (f (stepC c 0 1)) (f (stepC c 1 1)) (f (stepC c 2 1)) (f (stepC c 3 1)) (f (stepC c 4 1)) (f (stepC c 5 1)) (f (stepC c 6 1)) (f (stepC c 7 1))
  clear g
  generalize f (stepC c 0 1) = a0 at *
  generalize f (stepC c 1 1) = a1 at *
  generalize f (stepC c 2 1) = a2 at *
  generalize f (stepC c 3 1) = a3 at *
  generalize f (stepC c 4 1) = a4 at *
  generalize f (stepC c 5 1) = a5 at *
  generalize f (stepC c 6 1) = a6 at *
  generalize f (stepC c 7 1) = a7 at *
  unfold chkB at k
  simp only [Bool.or_eq_true, Bool.not_eq_true', Bool.and_eq_true, Bool.and_eq_false_iff, Bool.or_eq_false_iff, decide_eq_true_eq, List.all_eq_true, List.mem_range] at k
  rcases k with k | ⟨k1, k2⟩
  · exfalso
    revert c0 c1 c2 c3 c4 c5 c6 c7 k
    cases a0 <;> cases a1 <;> cases a2 <;> cases a3 <;> cases a4 <;> cases a5 <;> cases a6 <;> cases a7 <;> simp
  · refine ⟨k1, fun i hi => ?_⟩
    rcases k2 i (Nat.lt_of_lt_of_le hi l8) with z | z
    · omega
    · exact z
theorem step_bw {n : Nat} {c : C4} {d : Int} (h0 : 0 ≤ d) (h7 : d ≤ 7) (h : C4.bw n c) : C4.bw (n + 1) (stepC c d 1) := by
  obtain ⟨e1, e2, e3, e4⟩ := unit_add h0 h7 c
  obtain ⟨u1, u2, u3, u4⟩ := unit_bw h0 h7
  obtain ⟨w1, w2, w3, w4⟩ := h
  have k : ∀ {x y : Int}, Bw n x → Bw 1 y → Bw (n + 1) (x + y) := fun {x y} hx hy => by
    unfold Bw at *
    have : 0 < 2 ^ n := Nat.pow_pos (by decide)
    rw [Nat.pow_succ]
    omega
  rw [C4.bw, e1, e2, e3, e4]
  exact ⟨k w1 u1, k w2 u2, k w3 u3, k w4 u4⟩
theorem C4.bw.mono {n m : Nat} {c : C4} (h : C4.bw n c) (l : n ≤ m) : C4.bw m c := ⟨h.1.mono l, h.2.1.mono l, h.2.2.1.mono l, h.2.2.2.mono l⟩
theorem step_back {c : C4} {d : Int} (h0 : 0 ≤ d) (h7 : d ≤ 7) : stepC (stepC c d 1) ((d + 4) % 8) 1 = c := by
  obtain ⟨a, b, e, g⟩ := c
  rcases dir_cases h0 h7 with rfl | rfl | rfl | rfl | rfl | rfl | rfl | rfl <;> simp [stepC, C4.plus] <;> omega
abbrev s_Floorways : Stmt := inClass (top 43) 2
theorem sc_Floorways : FnScope ["self", "corner", "d"] ["self", "corner"] (defScope s_Floorways) := ⟨rfl, rfl, rfl, by decide +kernel, rfl, by decide +kernel, by decide +kernel⟩

def sp_Floorways (Z : Zs) : Sp := fun vs H Q E =>
  ∃ v p c t r b t' r' b', vs = [v, .ref p] ∧ FloorAt Z H v t r b t' r' b' ∧ 0 < b ∧ 0 < b' ∧ H p = some (.tup [.int (c : C4).a, .int c.b, .int c.c, .int c.d]) ∧ C4.bw 590 c ∧ ∀ u H', H u = none → Same H H' → H' u = some (.tup ((sidesF (hasB t r b t' r' b') c 8).map V.int)) → Q (.ref u) H'
theorem ok_Floorways (T : Txt Z mg) (h_in_window : Has P w Z.K mg base "in_window" 3 ["gauge", "corner"] (sp_in_window Z)) (h_step : Has P w Z.K mg base "step" 1 ["corner", "direction", "many"] (sp_step Z)) (D : AtM Z.K Z.c_Floor "_ways" "Floor._ways" s_Floorways ["self", "corner"]) : HasM P w Z.K mg base Z.c_Floor "_ways" 4 ["self", "corner"] (sp_Floorways Z) := by
  refine D.ok sc_Floorways (fun vs H Q E h => ?_) (fun cdv A outer s H vs Q E hr h => ?_)
  · obtain ⟨v, p, c, t, r, b, t', r', b', rfl, _⟩ := h
    rfl
  · refine ⟨_, (pss_one (ps_ret (pe_callTy cn_tuple rfl T.n_tuple (by decide +kernel) (pa_cons (pe_lc (own := [("d", 2)]) (g := gName 2) rfl sc_Floorways.nd (pi_range1 rfl T.n_range (pa_cons pe_int pa_nil)) (blkOk_by (N := ["self", "corner", "d"]) (sc := defScope s_Floorways) (by decide +kernel)) (fun _ _ _ _ _ => pg_name (i := 2) sc_Floorways.nd rfl (Or.inl rfl)) (fun _ _ _ _ _ => (pts_one (pt_val (pe_h (E := fun _ => E0) h_in_window hr pa0 (pa_cons (pe_fldZ (K := Z.K) rfl (pv 0) rfl) (pa_cons (pe_h (E := fun _ => E0) h_step hr pa0 (pa_cons (pv 1) (pa_cons (pv 2) (pa_cons pe_int pa_nil)))) pa_nil)))))) (fun _ _ _ _ _ => (pv 2))) pa_nil)))), ?_⟩
    try simp only [cxOf]
    obtain ⟨v, p, c, t, r, b, t', r', b', rfl, hf, pb, pb', hp, wc, k⟩ := h
    have hf' := hf
    obtain ⟨a, dx, u, g, vx, vy, D, X1, X2, Y1, Y2, rfl, e1, e2, e3, e4, e5, G⟩ := hf
    walk_at "W"
    refine k_lcR (n := 8) (fun i D' H' => H D' = none ∧ H' D' = some (.lst ((sidesF (hasB t r b t' r' b') c i).map V.int)) ∧ Same H H') (by decide) (by decide) (fun D hD => ⟨hD, upd_same, Same.new hD⟩) ?_ ?_
    · rintro i D' H' hi ⟨hD, f1, ss⟩
      have hi8 : i < 8 := hi
      have hp := ss _ _ hp
      refine ⟨rfl, ?_⟩
      walk_at "W"
      refine w_fld (ss _ _ e1) T.c_Floor T.nf_Floor__gauge (ff_gauge _ _) ?_
      walk_at "W"
      refine ⟨_, c, _, _, rfl, ⟨p, rfl, hp⟩, by omega, by omega, fun v' H5 s5 hc5 => ?_⟩
      obtain ⟨p5, rfl, hp5⟩ := hc5
      walk_at "W"
      refine ⟨g, p5, D, X1, X2, Y1, Y2, _, rfl, s5 _ _ (ss _ _ e5), hp5, G.wB, G.w1, G.w2, G.w3, G.w4, (step_bw (d := 0 + (i : Int)) (by omega) (by omega) wc).mono (by decide), ?_⟩
      rw [inW_hasB pb pb' G]
      cases e : hasB t r b t' r' b' (stepC c (0 + (i : Int)) 1)
      · walk_at "W"
        refine ⟨hD, ?_, ss.trans s5⟩
        rw [Int.zero_add] at e
        rw [sidesF_succ, e, if_neg (by decide), List.append_nil]
        exact s5 _ _ f1
      · walk_at "W"
        refine ⟨_, s5 _ _ f1, sz_lt (by have := sidesF_len (f := hasB t r b t' r' b') (c := c) (n := i); simp; omega), hD, ?_, fun b o eb => ?_⟩
        · rw [Int.zero_add] at e
          rw [sidesF_succ, e, if_pos rfl, List.map_append, upd_same, Int.zero_add]
          rfl
        · rw [upd_ne (ne_of_none eb hD)]
          exact s5 _ _ (ss b o eb)
    · rintro D' H5 ⟨hD, f1, ss⟩
      exact w_tupL f1 fun u2 H6 hu s6 e6 => k u2 H6 (ss.free hu) (ss.trans s6) e6
abbrev s_Floor_sides : Stmt := inClass (top 43) 4
theorem sc_Floor_sides : FnScope ["self", "corner"] ["self", "corner"] (defScope s_Floor_sides) := ⟨rfl, rfl, rfl, by decide +kernel, rfl, by decide +kernel, by decide +kernel⟩

def sp_Floor_sides (Z : Zs) : Sp := fun vs H Q E =>
  ∃ v o t r b t' r' b', vs = [v, o] ∧ FloorAt Z H v t r b t' r' b' ∧ 0 < b ∧ 0 < b' ∧ ((∃ c, CorAt H o c ∧ C4.bw 590 c ∧ (hasB t r b t' r' b' c = true ∧ (∀ u H', H u = none → Same H H' → H' u = some (.tup ((sidesF (hasB t r b t' r' b') c 8).map V.int)) → Q (.ref u) H') ∨ hasB t r b t' r' b' c = false ∧ ErX Z.c_NoCorner "corner" o H E)) ∨ BadCor Z H o ∧ ErX Z.c_BadCorner "corner" o H E)
theorem ok_Floor_sides (T : Txt Z mg) (h_NoCorner : HasX P w Z.K mg base "NoCorner" Z.c_NoCorner 1 ["self", "corner"] (sp_NoCorner_init Z)) (h_Floorways : HasM P w Z.K mg base Z.c_Floor "_ways" 4 ["self", "corner"] (sp_Floorways Z)) (h_Floor_has_corner : HasM P w Z.K mg base Z.c_Floor "has_corner" 4 ["self", "corner"] (sp_Floor_has_corner Z)) (D : AtM Z.K Z.c_Floor "sides" "Floor.sides" s_Floor_sides ["self", "corner"]) : HasM P w Z.K mg base Z.c_Floor "sides" 5 ["self", "corner"] (sp_Floor_sides Z) := by
  refine D.ok sc_Floor_sides (fun vs H Q E h => ?_) (fun cdv A outer s H vs Q E hr h => ?_)
  · obtain ⟨v, o, t, r, b, t', r', b', rfl, _⟩ := h
    rfl
  · refine ⟨_, (pss_cons (ps_if (pt_not (pt_val (pe_hm (E := ED E) h_Floor_has_corner T.c_Floor hr (paW (takes_of rfl rfl rfl rfl)) (pv 0) (pa_cons (pv 1) pa_nil)))) (pss_one (ps_raise rfl (takes_of rfl rfl rfl rfl) (pm_h T.x_NoCorner h_NoCorner hr (pa_cons (pv 1) pa_nil)))) pss_nil)
      (pss_one (ps_ret (pe_hm (E := ED E) h_Floorways T.c_Floor hr (paW (takes_of rfl rfl rfl rfl)) (pv 0) (pa_cons (pv 1) pa_nil))))), ?_⟩
    try simp only [cxOf]
    obtain ⟨v, o, t, r, b, t', r', b', rfl, hf, pb, pb', ⟨c, hc, wc, hh⟩ | ⟨bad, er⟩⟩ := h
    · have hf' := hf
      obtain ⟨a, dx, u, g, vx, vy, D, X1, X2, Y1, Y2, rfl, e1, e2, e3, e4, e5, -⟩ := hf'
      walk_at "W"
      refine k_meth e1 (ff_none (by decide +kernel) (by decide +kernel)) ?_
      walk_at "W"
      refine ⟨_, o, t, r, b, t', r', b', rfl, hf, .inl ⟨c, hc, wc.mono (by decide), fun D X1 X2 Y1 Y2 H1 s1 G => ?_⟩⟩
      rw [inW_hasB pb pb' G]
      rcases hh with ⟨y, q⟩ | ⟨n, er⟩
      · rw [y]
        walk_at "W"
        refine k_meth (s1 _ _ e1) (ff_none (by decide +kernel) (by decide +kernel)) ?_
        obtain ⟨p, rfl, hp⟩ := hc
        walk_at "W"
        exact ⟨_, p, c, t, r, b, t', r', b', rfl, hf.same s1, pb, pb', s1 _ _ hp, wc, fun u H2 hu s2 e => q u H2 (s1.free hu) (s1.trans s2) e⟩
      · rw [n]
        walk_at "W"
        exact k_mkO (er.same s1)
    · have hf' := hf
      obtain ⟨a, dx, u, g, vx, vy, D, X1, X2, Y1, Y2, rfl, e1, e2, e3, e4, e5, -⟩ := hf'
      walk_at "W"
      refine k_meth e1 (ff_none (by decide +kernel) (by decide +kernel)) ?_
      walk_at "W"
      exact ⟨_, o, t, r, b, t', r', b', rfl, hf, .inr ⟨bad, er⟩⟩
-- needs W16
theorem cutV_tail {xs : List V} {k : Nat} : cutV xs (some (k : Int)) none = xs.drop k := by
  unfold cutV
  rw [show HT.sIx xs.length 0 (some (k : Int)) = min k xs.length from HT.sIx_nat _ _ _]
  show List.take (xs.length - min k xs.length) (List.drop (min k xs.length) xs) = _
  rcases Nat.le_total k xs.length with h | h
  · rw [Nat.min_eq_left h, List.take_of_length_le (by rw [List.length_drop]; omega)]
  · rw [Nat.min_eq_right h, List.drop_of_length_le h, List.drop_length, List.take_nil]
theorem cutV_head {xs : List V} {k : Nat} : cutV xs none (some (k : Int)) = xs.take k := by
  unfold cutV
  rw [show HT.sIx xs.length xs.length (some (k : Int)) = min k xs.length from HT.sIx_nat _ _ _]
  show List.take (min k xs.length - 0) (List.drop 0 xs) = _
  rw [List.drop_zero, Nat.sub_zero]
  rcases Nat.le_total k xs.length with h | h
  · rw [Nat.min_eq_left h]
  · rw [Nat.min_eq_right h, List.take_length, List.take_of_length_le h]
theorem inV_ints {k : Int} {ds : List Int} : inV (.int k) (ds.map V.int) = decide (k ∈ ds) := by
  unfold inV
  rw [List.any_map]
  induction ds with
  | nil => rfl
  | cons d ds ih =>
    rw [List.any_cons, ih]
    by_cases h : k = d
    · subst h
      simp [eqV]
    · have : ¬ d = k := fun z => h z.symm
      simp [eqV, h, this]
theorem flat_ints (ds : List Int) : (ds.map V.int).all flatV = true := by
  rw [List.all_map, List.all_eq_true]
  intro d _
  rfl
theorem w_notInT {K : PySem.W.Frag} {H : Hp} {Q : VK} {p : Addr} {k : Int} {ds : List Int} (h : H p = some (.tup (ds.map V.int))) (q : Q (.bl (!decide (k ∈ ds))) H) : rIn K true (.int k) (.ref p) H Q :=
  ⟨p, _, rfl, .inr (SqT.of h), rfl, flat_ints _, by rw [if_pos rfl, inV_ints]; exact q⟩
theorem w_neLL {K : PySem.W.Frag} {H : Hp} {Q : VK} {a b : Addr} {ns ms : List Int} (h1 : H a = some (.lst (ns.map V.int))) (h2 : H b = some (.lst (ms.map V.int))) (q : Q (.bl (!decide (ns = ms))) H) : rNeD K (.ref a) (.ref b) H Q :=
  ⟨.list (ns.map .int), .list (ms.map .int), .lst (SqL.of h1) (dp_ints ns), .lst (SqL.of h2) (dp_ints ms), shaped_intsL _, shaped_intsL _, by rw [PyData.eqv, eqv_ints]; exact q⟩
/-- (word, thing) != (word, thing), the same thing -/
theorem k_neSame {K : PySem.W.Frag} {H : Hp} {Q : VK} {s : Str} {u v : Addr} {x : V} {d : PyData} (hu : H u = some (.tup [.str s, x])) (hv : H v = some (.tup [.str s, x])) (ls : PyData.canLay0 (.str s) = true) (dx : Dp K H x d) (ly : d.canLay0 = true) (de : d.depth ≤ 10) (q : Q (.bl false) H) : rNeD K (.ref u) (.ref v) H Q := by
  have l2 : PyData.canLay0 (.tuple [.str s, d]) = true := by
    simp only [PyData.canLay0] at ls
    simp only [PyData.canLay0, PyData.canLayAll0, ly, ls, Bool.and_self]
  have sh : SeqAt.shaped (.tuple [.str s, d]) = true := by
    unfold SeqAt.shaped
    rw [l2, Bool.true_and]
    simp only [PyData.depth, PyData.depthAll]
    exact decide_eq_true (by omega)
  refine ⟨_, _, .tup (SqT.of hu) (.cons (.str _) (.cons dx .nil)), .tup (SqT.of hv) (.cons (.str _) (.cons dx .nil)), sh, sh, ?_⟩
  rw [SeqAt.eqv_refl _ l2]
  exact q
abbrev s__law_step : Stmt := top 62
theorem sc__law_step : FnScope ["corner", "way", "many", "found"] ["corner", "way", "many"] (defScope s__law_step) := ⟨rfl, rfl, rfl, by decide +kernel, rfl, by decide +kernel, by decide +kernel⟩

def sp__law_step (Z : Zs) : Sp := fun vs H Q E =>
  ∃ p c d m, vs = [.ref p, .int d, .int m] ∧ H p = some (.tup [.int (c : C4).a, .int c.b, .int c.c, .int c.d]) ∧ 0 ≤ d ∧ d ≤ 7 ∧ ∀ u H', H u = none → Same H H' → H' u = some (.tup [.int (stepC c d m).a, .int (stepC c d m).b, .int (stepC c d m).c, .int (stepC c d m).d]) → Q (.ref u) H'
theorem ok__law_step (T : Txt Z mg)  (D : AtF Z.K mg "_law_step" "_law_step" s__law_step ["corner", "way", "many"]) : Has P w Z.K mg base "_law_step" 1 ["corner", "way", "many"] (sp__law_step Z) := by
  refine D.ok sc__law_step (fun vs H Q E h => ?_) (fun cdv A outer s H vs Q E hr h => ?_)
  · obtain ⟨p, c, d, m, rfl, _⟩ := h
    rfl
  · refine ⟨_, (pss_cons (ps_set (i := 3) sc__law_step.nd rfl (Or.inl rfl) (pe_callTy cn_list rfl T.n_list (by decide +kernel) (pa_cons (pv 0) pa_nil)))
      (pss_cons (ps_augS (pv 3) (pe_op op_mod (pe_callTy cn_int rfl T.n_int (by decide +kernel) (pa_cons (pv 1) pa_nil)) pe_int) get_list (pe_ifExp (pt_cmpR op_lt (pv 1) pe_int (nomark _)) (pv 2) (pe_un un_neg (pv 2))) ip_add set_list)
      (pss_one (ps_ret (pe_callTy cn_tuple rfl T.n_tuple (by decide +kernel) (pa_cons (pv 3) pa_nil)))))), ?_⟩
    try simp only [cxOf]
    obtain ⟨p, c, d, m, rfl, hp, h0, h7, q⟩ := h
    walk_at "W"
    refine w_listT (SqT.of hp) fun l H1 hl s1 e1 => ?_
    have fin : ∀ {x y z u : Int} {H2 : Hp}, SameX l H1 H2 → H2 l = some (.lst [.int x, .int y, .int z, .int u]) → (⟨x, y, z, u⟩ : C4) = stepC c d m → rTupOf Z.K [.ref l] H2 Q := fun {x y z u H2} s2 e2 e => by
      refine w_tupL e2 fun t H3 ht s3 e3 => ?_
      have S : Same H H3 := fun b o eb => s3 _ _ (s2 b o (ne_of_none eb hl) (s1 _ _ eb))
      have S2 : Same H H2 := fun b o eb => s2 b o (ne_of_none eb hl) (s1 _ _ eb)
      refine q _ H3 (S2.free ht) S ?_
      rw [← e]
      exact e3
    rcases dir_cases h0 h7 with rfl | rfl | rfl | rfl | rfl | rfl | rfl | rfl
    all_goals
      walk_at "W"
      refine w_getL e1 (by decide) rfl ?_
      walk_at "W"
      refine ⟨_, _, rfl, rfl, ?_⟩
      refine w_setL e1 rfl fun H2 s2 e2 => ?_
      walk_at "W"
      exact fin s2 e2 (by simp [stepC, C4.plus, Int.sub_eq_add_neg])
abbrev s__law_sides : Stmt := top 63
theorem sc__law_sides : FnScope ["shift", "corner", "way"] ["shift", "corner"] (defScope s__law_sides) := ⟨rfl, rfl, rfl, by decide +kernel, rfl, by decide +kernel, by decide +kernel⟩

def sp__law_sides (Z : Zs) : Sp := fun vs H Q E =>
  ∃ w p c T R B T' R' B', vs = [.ref w, .ref p] ∧ ShAt H w T R B T' R' B' ∧ ShB T R B T' R' B' ∧ H p = some (.tup [.int (c : C4).a, .int c.b, .int c.c, .int c.d]) ∧ C4.bw 129 c ∧ ∀ u H', H u = none → Same H H' → H' u = some (.lst ((sidesF (hasB T R B T' R' B') c 8).map V.int)) → Q (.ref u) H'
theorem ok__law_sides (T : Txt Z mg) (h__law_has : Has P w Z.K mg base "_law_has" 4 ["shift", "corner"] (sp__law_has Z)) (h__law_step : Has P w Z.K mg base "_law_step" 1 ["corner", "way", "many"] (sp__law_step Z)) (D : AtF Z.K mg "_law_sides" "_law_sides" s__law_sides ["shift", "corner"]) : Has P w Z.K mg base "_law_sides" 5 ["shift", "corner"] (sp__law_sides Z) := by
  refine D.ok sc__law_sides (fun vs H Q E h => ?_) (fun cdv A outer s H vs Q E hr h => ?_)
  · obtain ⟨w, p, c, T, R, B, T', R', B', rfl, _⟩ := h
    rfl
  · refine ⟨_, (pss_one (ps_ret (pe_lc (own := [("way", 2)]) (g := gName 2) rfl sc__law_sides.nd (pi_range1 rfl T.n_range (pa_cons pe_int pa_nil)) (blkOk_by (N := ["shift", "corner", "way"]) (sc := defScope s__law_sides) (by decide +kernel)) (fun _ _ _ _ _ => pg_name (i := 2) sc__law_sides.nd rfl (Or.inl rfl)) (fun _ _ _ _ _ => (pts_one (pt_val (pe_h (E := fun _ => E0) h__law_has hr pa0 (pa_cons (pv 0) (pa_cons (pe_h (E := fun _ => E0) h__law_step hr pa0 (pa_cons (pv 1) (pa_cons (pv 2) (pa_cons pe_int pa_nil)))) pa_nil)))))) (fun _ _ _ _ _ => (pv 2))))), ?_⟩
    try simp only [cxOf]
    obtain ⟨w, p, c, TT, R, B, T', R', B', rfl, hs, sb, hp, wc, k⟩ := h
    walk_at "W"
    refine k_lcR (n := 8) (fun i D H' => H D = none ∧ H' D = some (.lst ((sidesF (hasB TT R B T' R' B') c i).map V.int)) ∧ Same H H') (by decide) (by decide) (fun D hD => ⟨hD, upd_same, Same.new hD⟩) ?_ ?_
    · rintro i D H' hi ⟨hD, e1, ss⟩
      have hi8 : i < 8 := hi
      have hp := ss _ _ hp
      refine ⟨rfl, ?_⟩
      walk_at "W"
      refine ⟨p, c, _, _, rfl, hp, by omega, by omega, fun u H5 hu s5 e5 => ?_⟩
      walk_at "W"
      refine k_lhas (hs.kps (Kps.same (ss.trans s5))) sb e5 (step_bw (by omega) (by omega) wc) fun H6 s6 => ?_
      have S := s5.trans s6
      cases e : hasB TT R B T' R' B' (stepC c (0 + (i : Int)) 1)
      · walk_at "W"
        refine ⟨hD, ?_, ss.trans S⟩
        rw [Int.zero_add] at e
        rw [sidesF_succ, e, if_neg (by decide), List.append_nil]
        exact S _ _ e1
      · walk_at "W"
        refine ⟨_, S _ _ e1, sz_lt (by have := sidesF_len (f := hasB TT R B T' R' B') (c := c) (n := i); simp; omega), hD, ?_, fun b o eb => ?_⟩
        · rw [Int.zero_add] at e
          rw [sidesF_succ, e, if_pos rfl, List.map_append, upd_same, Int.zero_add]
          rfl
        · rw [upd_ne (ne_of_none eb hD)]
          exact S _ _ (ss b o eb)
    · rintro D H5 ⟨hD, e1, ss⟩
      exact k D H5 hD ss e1
theorem part_bw {n : Nat} {x y : Int} (h : Bw n x) (l : 25 ≤ n) (h1 : -10000000 ≤ y) (h2 : y ≤ 10000000) : Bw (n + 1) (x + y) := by
  unfold Bw at *
  have : 2 ^ 25 ≤ 2 ^ n := Nat.pow_le_pow_right (by decide) l
  rw [Nat.pow_succ]
  have e : (2 : Nat) ^ 25 = 33554432 := by decide
  omega
/-- tuple and tuple with one part changed -/
def C4.set1 (c : C4) (i : Int) (y : Int) : C4 := if i = 0 then ⟨c.a + y, c.b, c.c, c.d⟩ else if i = 1 then ⟨c.a, c.b + y, c.c, c.d⟩ else if i = 2 then ⟨c.a, c.b, c.c + y, c.d⟩ else ⟨c.a, c.b, c.c, c.d + y⟩
theorem C4.set1_bw {n : Nat} {c : C4} {i y : Int} (h : C4.bw n c) (l : 25 ≤ n) (h1 : -10000000 ≤ y) (h2 : y ≤ 10000000) : C4.bw (n + 1) (c.set1 i y) := by
  have m : ∀ {x : Int}, Bw n x → Bw (n + 1) x := fun h => h.mono (by omega)
  obtain ⟨a, b, cc, d⟩ := h
  unfold C4.set1
  split
  · exact ⟨part_bw a l h1 h2, m b, m cc, m d⟩
  split
  · exact ⟨m a, part_bw b l h1 h2, m cc, m d⟩
  split
  · exact ⟨m a, m b, part_bw cc l h1 h2, m d⟩
  · exact ⟨m a, m b, m cc, part_bw d l h1 h2⟩
abbrev s__law_far : Stmt := top 65
theorem sc__law_far : FnScope ["state", "corner", "at", "part"] ["state", "corner"] (defScope s__law_far) := ⟨rfl, rfl, rfl, by decide +kernel, rfl, by decide +kernel, by decide +kernel⟩

def sp__law_far (Z : Zs) : Sp := fun vs H Q E =>
  ∃ (st sc p : Addr) (c : C4), vs = [.ref st, .ref p] ∧ StA H st sc ∧ H p = some (.tup [.int c.a, .int c.b, .int c.c, .int c.d]) ∧ ∀ i y u H', 0 ≤ i → i < 4 → -10000000 ≤ y → y ≤ 10000000 → SameX st H H' → StA H' st sc → H' u = some (.tup [.int (c.set1 i y).a, .int (c.set1 i y).b, .int (c.set1 i y).c, .int (c.set1 i y).d]) → Q (.ref u) H'
theorem ok__law_far (T : Txt Z mg) (h__law_draw : Has P w Z.K mg base "_law_draw" 2 ["state", "many"] (sp__law_draw Z)) (D : AtF Z.K mg "_law_far" "_law_far" s__law_far ["state", "corner"]) : Has P w Z.K mg base "_law_far" 3 ["state", "corner"] (sp__law_far Z) := by
  refine D.ok sc__law_far (fun vs H Q E h => ?_) (fun cdv A outer s H vs Q E hr h => ?_)
  · obtain ⟨st, sc, p, c, rfl, _⟩ := h
    rfl
  · refine ⟨_, (pss_cons (ps_set (i := 2) sc__law_far.nd rfl (Or.inl rfl) (pe_h (E := ED E) h__law_draw hr (paW (takes_of rfl rfl rfl rfl)) (pa_cons (pv 0) (pa_cons pe_int pa_nil))))
      (pss_cons (ps_set (i := 3) sc__law_far.nd rfl (Or.inl rfl) (pe_op op_add pe_int (pe_h (E := ED E) h__law_draw hr (paW (takes_of rfl rfl rfl rfl)) (pa_cons (pv 0) (pa_cons (pe_op op_pow pe_int pe_int) pa_nil)))))
      (C8.pss_cut (ps_if (pt_cmpR op_eq (pe_h (E := ED E) h__law_draw hr (paW (takes_of rfl rfl rfl rfl)) (pa_cons (pv 0) (pa_cons pe_int pa_nil))) pe_int (nomark _)) (pss_one (ps_set (i := 3) sc__law_far.nd rfl (Or.inl rfl) (pe_un un_neg (pv 3)))) pss_nil)
      (pss_one (ps_ret (pe_op op_catA (pe_op op_catA (pe_slice sl_tupA (pv 1) po_none (po_some (pv 2))) (pe_tup (pa_cons (pe_op op_add (pe_ix ix_seq (pv 1) (pv 2) (fun _ _ => rfl)) (pv 3)) pa_nil))) (pe_slice sl_tupA (pv 1) (po_some (pe_op op_add (pv 2) pe_int)) po_none))))))), ?_⟩
    try simp only [cxOf]
    obtain ⟨st, sc, p, c, rfl, hs, hp, q⟩ := h
    walk_at "W"
    refine k_draw' hs (by decide) (by decide) fun i H1 i0 i1 x1 hs1 => ?_
    have hp1 := (Kps.st hs x1).tup hp
    walk_at "W"
    refine ⟨st, sc, _, rfl, hs1, by decide, Nat.lt_of_le_of_lt (m := 10 ^ 6) (by decide) (by decide), fun n H2 n0 n1 x2 hs2 => ?_⟩
    have n1 : n < 1000000 := n1
    have hp2 := (Kps.st hs1 x2).tup hp1
    walk_at "W"
    refine w_cut (fun σ' H' => ∃ y, σ' = [some (.ref st), some (.ref p), some (.int i), some (.int y)] ∧ -10000000 ≤ y ∧ y ≤ 10000000 ∧ SameX st H2 H' ∧ StA H' st sc) ?_ ?_
    · walk_at "W"
      refine k_draw' hs2 (by decide) (by decide) fun m H3 m0 m1 x3 hs3 => ?_
      walk_at "W"
      refine w_ite (fun _ => ?_) (fun _ => ?_)
      · walk_at "W"
        exact ⟨_, rfl, by omega, by omega, x3, hs3⟩
      · walk_at "W"
        exact ⟨_, rfl, by omega, by omega, x3, hs3⟩
    rintro σ' H3 ⟨y, rfl, y0, y1, x3, hs3⟩
    have hp3 := (Kps.st hs2 x3).tup hp2
    have X3 := x1.trans (x2.trans x3)
    have fin : ∀ {t : Addr} {H' : Hp}, Same H3 H' → H' t = some (.tup [.int (c.set1 i y).a, .int (c.set1 i y).b, .int (c.set1 i y).c, .int (c.set1 i y).d]) → Q (.ref t) H' := fun {t H'} s e => q i y t H' i0 i1 y0 y1 (X3.trans (Same.x s)) (hs3.same s) e
    walk_at "W"
    refine k_slA hp3 fun t1 H5 s5 f5 => ?_
    walk_at "W"
    have hi : i = 0 ∨ i = 1 ∨ i = 2 ∨ i = 3 := by omega
    rcases hi with rfl | rfl | rfl | rfl
    · refine w_ixT (v := .int c.a) (s5 _ _ hp3) rfl ?_
      walk_at "W"
      refine k_tup rfl fun t2 H6 ht2 s6 f6 => ?_
      have f5 : H5 t1 = some (.tup []) := f5
      refine w_catA (s6 _ _ f5) f6 rfl fun t3 H7 s7 f7 => ?_
      walk_at "W"
      refine k_slA (s7 _ _ (s6 _ _ (s5 _ _ hp3))) fun t4 H8 s8 f8 => ?_
      refine w_catA (s8 _ _ f7) f8 rfl fun t5 H9 s9 f9 => ?_
      exact fin (s5.trans (s6.trans (s7.trans (s8.trans s9)))) f9
    · refine w_ixT (v := .int c.b) (s5 _ _ hp3) rfl ?_
      walk_at "W"
      refine k_tup rfl fun t2 H6 ht2 s6 f6 => ?_
      have f5 : H5 t1 = some (.tup [.int c.a]) := f5
      refine w_catA (s6 _ _ f5) f6 rfl fun t3 H7 s7 f7 => ?_
      walk_at "W"
      refine k_slA (s7 _ _ (s6 _ _ (s5 _ _ hp3))) fun t4 H8 s8 f8 => ?_
      refine w_catA (s8 _ _ f7) f8 rfl fun t5 H9 s9 f9 => ?_
      exact fin (s5.trans (s6.trans (s7.trans (s8.trans s9)))) f9
    · refine w_ixT (v := .int c.c) (s5 _ _ hp3) rfl ?_
      walk_at "W"
      refine k_tup rfl fun t2 H6 ht2 s6 f6 => ?_
      have f5 : H5 t1 = some (.tup [.int c.a, .int c.b]) := f5
      refine w_catA (s6 _ _ f5) f6 rfl fun t3 H7 s7 f7 => ?_
      walk_at "W"
      refine k_slA (s7 _ _ (s6 _ _ (s5 _ _ hp3))) fun t4 H8 s8 f8 => ?_
      refine w_catA (s8 _ _ f7) f8 rfl fun t5 H9 s9 f9 => ?_
      exact fin (s5.trans (s6.trans (s7.trans (s8.trans s9)))) f9
    · refine w_ixT (v := .int c.d) (s5 _ _ hp3) rfl ?_
      walk_at "W"
      refine k_tup rfl fun t2 H6 ht2 s6 f6 => ?_
      have f5 : H5 t1 = some (.tup [.int c.a, .int c.b, .int c.c]) := f5
      refine w_catA (s6 _ _ f5) f6 rfl fun t3 H7 s7 f7 => ?_
      walk_at "W"
      refine k_slA (s7 _ _ (s6 _ _ (s5 _ _ hp3))) fun t4 H8 s8 f8 => ?_
      refine w_catA (s8 _ _ f7) f8 rfl fun t5 H9 s9 f9 => ?_
      exact fin (s5.trans (s6.trans (s7.trans (s8.trans s9)))) f9
abbrev s__law_floor : Stmt := top 64
theorem sc__law_floor : FnScope ["shift"] ["shift"] (defScope s__law_floor) := ⟨rfl, rfl, rfl, by decide +kernel, rfl, by decide +kernel, by decide +kernel⟩

def sp__law_floor (Z : Zs) : Sp := fun vs H Q E =>
  ∃ w T R B T' R' B', vs = [.ref w] ∧ ShAt H w T R B T' R' B' ∧ ShB T R B T' R' B' ∧ ∀ v H', Same H H' → FloorAt Z H' v (lowT T R B) (lowR T R B) (lowB T R B) (lowT T' R' B') (lowR T' R' B') (lowB T' R' B') → Q v H'
theorem ok__law_floor (T : Txt Z mg) (h_Floor : HasC P w Z.K mg base "Floor" Z.c_Floor 9 ["self", "shift"] (sp_Floor_init Z)) (h__law_given : Has P w Z.K mg base "_law_given" 5 ["number"] (sp__law_given Z)) (D : AtF Z.K mg "_law_floor" "_law_floor" s__law_floor ["shift"]) : Has P w Z.K mg base "_law_floor" 11 ["shift"] (sp__law_floor Z) := by
  refine D.ok sc__law_floor (fun vs H Q E h => ?_) (fun cdv A outer s H vs Q E hr h => ?_)
  · obtain ⟨w, T, R, B, T', R', B', rfl, _⟩ := h
    rfl
  · refine ⟨_, (pss_one (ps_ret (pe_hc (E := ED E) h_Floor hr (paW (takes_of rfl rfl rfl rfl)) (pa_cons (pe_tup (pa_cons (pe_h (E := ED E) h__law_given hr (paW (takes_of rfl rfl rfl rfl)) (pa_cons (pe_ix ix_seq (pv 0) pe_int (fun _ _ => rfl)) pa_nil)) (pa_cons (pe_h (E := ED E) h__law_given hr (paW (takes_of rfl rfl rfl rfl)) (pa_cons (pe_ix ix_seq (pv 0) pe_int (fun _ _ => rfl)) pa_nil)) pa_nil))) pa_nil)))), ?_⟩
    try simp only [cxOf]
    obtain ⟨ws, T0, R0, B0, T1, R1, B1, rfl, ⟨q1, q2, ew, g1, g2⟩, sb, q⟩ := h
    walk_at "W"
    refine ⟨q1, _, _, _, rfl, g1, sb.p, sb.wB.mono (by decide), fun v1 H7 s7 n1 => ?_⟩
    have ew7 := s7 _ _ ew
    walk_at "W"
    refine ⟨q2, _, _, _, rfl, s7 _ _ g2, sb.p', sb.wB'.mono (by decide), fun v2 H8 s8 n2 => ?_⟩
    walk_at "W"
    refine k_tup rfl fun uf H9 huf s9 e9 => ?_
    walk_at "W"
    exact k_floor sb e9 ((n1.same s8).same s9) (n2.same s9) fun vf H10 s10 hf => q vf H10 (s7.trans (s8.trans (s9.trans s10))) hf
/-- floor.sides(corner) of a right corner -/
theorem k_sides {v o : V} {T R B T' R' B' : Int} {H : Hp} {Q : VK} {E : XK} {c : C4} (hf : FloorAt Z H v (lowT T R B) (lowR T R B) (lowB T R B) (lowT T' R' B') (lowR T' R' B') (lowB T' R' B')) (p : 0 < B) (p' : 0 < B') (hc : CorAt H o c) (wc : C4.bw 130 c) (y : hasB T R B T' R' B' c = true)
    (q : ∀ u H', H u = none → Same H H' → H' u = some (.tup ((sidesF (hasB T R B T' R' B') c 8).map V.int)) → Q (.ref u) H') : sp_Floor_sides Z [v, o] H Q E := by
  have l1 := (low_is (t := T) (r := R) (b := B) (by omega)).pos
  have l2 := (low_is (t := T') (r := R') (b := B') (by omega)).pos
  refine ⟨v, o, _, _, _, _, _, _, rfl, hf, l1, l2, .inl ⟨c, hc, wc.mono (by decide), .inl ⟨by rw [has_low p p']; exact y, ?_⟩⟩⟩
  rw [sidesF_congr (has_low p p')]
  exact q
theorem gapF {v : V} {T R B T' R' B' : Int} {H : Hp} {c : C4} (hf : FloorAt Z H v (lowT T R B) (lowR T R B) (lowB T R B) (lowT T' R' B') (lowR T' R' B') (lowB T' R' B')) (p : 0 < B) (p' : 0 < B') (y : hasB T R B T' R' B' c = true) : Gap (hasB T R B T' R' B') c := by
  obtain ⟨a, dx, u, g, vx, vy, D, X1, X2, Y1, Y2, -, -, -, -, -, -, G⟩ := hf
  have l1 := (low_is (t := T) (r := R) (b := B) (by omega)).pos
  have l2 := (low_is (t := T') (r := R') (b := B') (by omega)).pos
  have := gapH l1 l2 G (by rw [has_low p p']; exact y)
  rw [show hasB (lowT T R B) (lowR T R B) (lowB T R B) (lowT T' R' B') (lowR T' R' B') (lowB T' R' B') = hasB T R B T' R' B' from funext (has_low p p')] at this
  exact this
/-- the shift that a law has made of a corner and a spot: what is left of it -/
structure ShOk (T R B T' R' B' : Int) (c : C4) : Prop where
  sb : ShB T R B T' R' B'
  self : hasB T R B T' R' B' c = true
/-- c less d, put to c -/
theorem sidesF_back {f : C4 → Bool} {c : C4} {d : Int} (h0 : 0 ≤ d) (h7 : d ≤ 7) (h : f c = true) : (d + 4) % 8 ∈ sidesF f (stepC c d 1) 8 :=
  sidesF_mem.mpr ⟨((d + 4) % 8).toNat, by omega, by omega, by rw [step_back h0 h7]; exact h⟩
-- needs W19
local macro_rules | `(tactic| walk_at "s") => `(tactic| first | with_reducible refine L2.My.w_dnin ?_ | with_reducible refine L2.My.w_dput ?_ | with_reducible refine L2.My.w_dispT ?_)
instance decC4 : DecidableEq C4 := fun x y => if h : x.a = y.a ∧ x.b = y.b ∧ x.c = y.c ∧ x.d = y.d then .isTrue (by cases x; cases y; simp_all) else .isFalse fun e => h (by subst e; exact ⟨rfl, rfl, rfl, rfl⟩)
def corK (c : C4) : List L2.Key := [.inl c.a, .inl c.b, .inl c.c, .inl c.d]
def corD (c : C4) : PyData := .tuple [.int c.a, .int c.b, .int c.c, .int c.d]
theorem corK_inj {c d : C4} (h : corK c = corK d) : c = d := by
  simp only [corK, List.cons.injEq, Sum.inl.injEq] at h
  obtain ⟨h1, h2, h3, h4, _⟩ := h
  cases c
  cases d
  simp_all
/-- a dict of corners -/
def seenV (cs : List C4) : List (List L2.Key × V) := cs.map fun c => (corK c, .bl true)
theorem seen_val {cs : List C4} {c : C4} : (valV (seenV cs) (corK c)).isSome = decide (c ∈ cs) := by
  rw [← valV_any]
  unfold seenV
  rw [List.any_map, Bool.eq_iff_iff, List.any_eq_true, decide_eq_true_eq]
  constructor
  · rintro ⟨d, hd, e⟩
    rw [← corK_inj (of_decide_eq_true e)]
    exact hd
  · exact fun h => ⟨c, h, decide_eq_true rfl⟩
theorem seen_put {cs : List C4} {c : C4} (h : c ∉ cs) : putK (seenV cs) (corK c) (.bl true) = seenV (cs ++ [c]) := by
  unfold putK
  rw [valV_any, seen_val, decide_eq_false h, if_neg (by decide)]
  unfold seenV
  rw [List.map_append]
  rfl
theorem CorAt.kpt {H H' : Hp} {v : V} {c : C4} (h : CorAt H v c) (k : Kpt H H') : CorAt H' v c := by
  obtain ⟨p, rfl, e⟩ := h
  exact ⟨p, rfl, k.tup e⟩
/-- a row of corners -/
def CsAt (H : Hp) : List V → List C4 → Prop
  | [], [] => True
  | v :: vs, c :: cs => CorAt H v c ∧ CsAt H vs cs
  | _, _ => False
theorem CsAt.kpt {H H' : Hp} (k : Kpt H H') : ∀ {vs : List V} {cs : List C4}, CsAt H vs cs → CsAt H' vs cs
  | [], [], h => h
  | _ :: _, _ :: _, h => ⟨h.1.kpt k, CsAt.kpt k h.2⟩
  | [], _ :: _, h => h.elim
  | _ :: _, [], h => h.elim
theorem CsAt.len {H : Hp} : ∀ {vs : List V} {cs : List C4}, CsAt H vs cs → vs.length = cs.length
  | [], [], _ => rfl
  | _ :: _, _ :: _, h => congrArg (· + 1) (CsAt.len h.2)
  | [], _ :: _, h => h.elim
  | _ :: _, [], h => h.elim
theorem CsAt.add {H : Hp} {v : V} {c : C4} (hc : CorAt H v c) : ∀ {vs : List V} {cs : List C4}, CsAt H vs cs → CsAt H (vs ++ [v]) (cs ++ [c])
  | [], [], _ => ⟨hc, trivial⟩
  | _ :: _, _ :: _, h => ⟨h.1, CsAt.add hc h.2⟩
  | [], _ :: _, h => h.elim
  | _ :: _, [], h => h.elim
theorem CsAt.get {H : Hp} : ∀ {vs : List V} {cs : List C4} {i : Nat} {v : V}, CsAt H vs cs → vs[i]? = some v → ∃ c, cs[i]? = some c ∧ CorAt H v c
  | v :: _, c :: _, 0, _, h, e => by
    cases e
    exact ⟨c, rfl, h.1⟩
  | _ :: _, _ :: _, i + 1, _, h, e => CsAt.get (i := i) h.2 e
  | [], [], _, _, _, e => by simp at e
  | [], _ :: _, _, _, h, _ => h.elim
  | _ :: _, [], _, _, h, _ => h.elim
theorem cor_dp {K : PySem.W.Frag} {H : Hp} {v : V} {c : C4} (h : CorAt H v c) : Dp K H v (corD c) := by
  obtain ⟨p, rfl, e⟩ := h
  exact .tup (SqT.of e) (.cons (.int _) (.cons (.int _) (.cons (.int _) (.cons (.int _) .nil))))
theorem CsAt.dp {K : PySem.W.Frag} {H : Hp} : ∀ {vs : List V} {cs : List C4}, CsAt H vs cs → DpAll K H vs (cs.map corD)
  | [], [], _ => .nil
  | _ :: _, _ :: _, h => .cons (cor_dp h.1) (CsAt.dp h.2)
  | [], _ :: _, h => h.elim
  | _ :: _, [], h => h.elim
theorem CsAt.zip {H : Hp} : ∀ {vs : List V} {cs : List C4}, CsAt H vs cs → ∀ p ∈ vs.zip cs, CorAt H p.1 p.2
  | [], [], _, p, hp => by cases hp
  | v :: vs, c :: cs, h, p, hp => by
    rw [List.zip_cons_cons] at hp
    rcases List.mem_cons.mp hp with rfl | hp
    · exact h.1
    · exact CsAt.zip h.2 p hp
  | [], _ :: _, h, _, _ => h.elim
  | _ :: _, [], h, _, _ => h.elim
theorem CsAt.unzip {H : Hp} : ∀ {zs : List (V × C4)}, (∀ p ∈ zs, CorAt H p.1 p.2) → CsAt H (zs.map Prod.fst) (zs.map Prod.snd)
  | [], _ => trivial
  | z :: _, h => ⟨h z (by simp), CsAt.unzip fun p hp => h p (by simp [hp])⟩
/-- corners in order -/
def sortC (cs : List C4) : List C4 := cs.mergeSort (PySem.W.dataLe false corD)
theorem sortC_perm (cs : List C4) : (sortC cs).Perm cs := List.mergeSort_perm _ _
theorem srt_cs {H : Hp} {vs : List V} {cs : List C4} (h : CsAt H vs cs) : CsAt H ((srtD vs (cs.map corD)).map Prod.fst) (sortC cs) := by
  have e1 : ((vs.zip cs).mergeSort fun p q => PySem.W.dataLe false corD p.2 q.2).map (fun p => (p.1, corD p.2)) = srtD vs (cs.map corD) := by
    unfold srtD
    rw [List.zip_map_right]
    exact PySem.W.sort_maps _ fun _ _ _ _ => rfl
  have e2 : ((vs.zip cs).mergeSort fun p q => PySem.W.dataLe false corD p.2 q.2).map Prod.snd = sortC cs := by
    unfold sortC
    rw [PySem.W.sort_maps (s := PySem.W.dataLe false corD) Prod.snd fun _ _ _ _ => rfl]
    congr 1
    exact List.map_snd_zip (Nat.le_of_eq h.len.symm)
  rw [← e1, ← e2, List.map_map]
  exact CsAt.unzip fun p hp => h.zip p ((List.mergeSort_perm _ _).mem_iff.mp hp)
theorem corD_alike {cs : List C4} : PySem.W.AllAlike (cs.map corD) := PySem.W.AllAlike.of fun _ _ => rfl
theorem corD_sortable {cs : List C4} : PySem.W.Sortable (cs.map corD) := PySem.W.Sortable.tuples fun _ => ⟨_, _, rfl⟩
theorem k_sortedC {K : PySem.W.Frag} {H : Hp} {Q : VK} {l : Addr} {vs : List V} {cs : List C4} (h : H l = some (.lst vs)) (hc : CsAt H vs cs) (q : ∀ p H2 ws, H p = none → Same H H2 → H2 p = some (.lst ws) → CsAt H2 ws (sortC cs) → Q (.ref p) H2) : rSortedD K [.ref l] H Q := by
  refine ⟨l, vs, cs.map corD, rfl, SqL.of h, hc.dp, corD_alike, corD_sortable, fun d hd => ?_, fun p hp => q p _ _ hp (Same.new hp) upd_same ((srt_cs hc).kpt (Kpt.same (Same.new hp)))⟩
  obtain ⟨c, _, rfl⟩ := List.mem_map.mp hd
  exact Nat.le_of_ble_eq_true rfl
/-! rings about a corner -/
def Nr (n : Nat) (c o : C4) : Prop := (o.a - c.a).natAbs ≤ n ∧ (o.b - c.b).natAbs ≤ n ∧ (o.c - c.c).natAbs ≤ n ∧ (o.d - c.d).natAbs ≤ n
theorem Nr.step {n : Nat} {c o : C4} {d : Int} (h : Nr n c o) (h0 : 0 ≤ d) (h7 : d ≤ 7) : Nr (n + 1) c (stepC o d 1) := by
  obtain ⟨e1, e2, e3, e4⟩ := unit_add h0 h7 o
  obtain ⟨u1, u2, u3, u4⟩ := unit_bw h0 h7
  obtain ⟨h1, h2, h3, h4⟩ := h
  unfold Bw at u1 u2 u3 u4
  unfold Nr
  rw [e1, e2, e3, e4]
  omega
theorem Nr.mono {n m : Nat} {c o : C4} (h : Nr n c o) (l : n ≤ m) : Nr m c o := ⟨by have := h.1; omega, by have := h.2.1; omega, by have := h.2.2.1; omega, by have := h.2.2.2; omega⟩
theorem Nr.bw {k n : Nat} {c o : C4} (h : Nr n c o) (hn : n ≤ 200) (l : 8 ≤ k) (w : C4.bw k c) : C4.bw (k + 1) o := by
  obtain ⟨h1, h2, h3, h4⟩ := h
  obtain ⟨w1, w2, w3, w4⟩ := w
  have t : 256 ≤ 2 ^ k := Nat.le_trans (by decide : 256 ≤ 2 ^ 8) (Nat.pow_le_pow_right (by decide) l)
  have key : ∀ {x y : Int}, Bw k x → (y - x).natAbs ≤ n → Bw (k + 1) y := fun {x y} hx hy => by
    unfold Bw at *
    rw [Nat.pow_succ]
    omega
  exact ⟨key w1 h1, key w2 h2, key w3 h3, key w4 h4⟩
def codeC (c o : C4) : Nat := (((o.a - c.a + 8).toNat * 17 + (o.b - c.b + 8).toNat) * 17 + (o.c - c.c + 8).toNat) * 17 + (o.d - c.d + 8).toNat
theorem dig_lt {x a n : Nat} (h : x < n) (ha : a < 17) : x * 17 + a < n * 17 := by omega
theorem dig_eq {x y a b : Nat} (ha : a < 17) (hb : b < 17) (e : x * 17 + a = y * 17 + b) : x = y ∧ a = b := by omega
theorem dig_of {x y : Int} (h : (x - y).natAbs ≤ 8) : (x - y + 8).toNat < 17 := by omega
theorem dig_one {x y z : Int} (h : (x - z).natAbs ≤ 8) (k : (y - z).natAbs ≤ 8) (e : (x - z + 8).toNat = (y - z + 8).toNat) : x = y := by omega
theorem code_lt {c o : C4} (h : Nr 8 c o) : codeC c o < 83521 := dig_lt (dig_lt (dig_lt (dig_of h.1) (dig_of h.2.1)) (dig_of h.2.2.1)) (dig_of h.2.2.2)
theorem code_inj {c o u : C4} (h : Nr 8 c o) (k : Nr 8 c u) (e : codeC c o = codeC c u) : o = u := by
  obtain ⟨h1, h2, h3, h4⟩ := h
  obtain ⟨k1, k2, k3, k4⟩ := k
  obtain ⟨e, e4⟩ := dig_eq (dig_of h4) (dig_of k4) e
  obtain ⟨e, e3⟩ := dig_eq (dig_of h3) (dig_of k3) e
  obtain ⟨e1, e2⟩ := dig_eq (dig_of h2) (dig_of k2) e
  obtain ⟨a, b, x, y⟩ := o
  obtain ⟨a', b', x', y'⟩ := u
  have := dig_one h1 k1 e1
  have := dig_one h2 k2 e2
  have := dig_one h3 k3 e3
  have := dig_one h4 k4 e4
  simp_all
/-- corners met so far -/
structure SeenOk (f : C4 → Bool) (c : C4) (n : Nat) (cs : List C4) : Prop where
  nd : cs.Nodup
  nr : ∀ o ∈ cs, Nr n c o
  y : ∀ o ∈ cs, f o = true
theorem SeenOk.mono {f : C4 → Bool} {c : C4} {n m : Nat} {cs : List C4} (h : SeenOk f c n cs) (l : n ≤ m) : SeenOk f c m cs := ⟨h.nd, fun o ho => (h.nr o ho).mono l, h.y⟩
theorem SeenOk.few {f : C4 → Bool} {c : C4} {n : Nat} {cs : List C4} (h : SeenOk f c n cs) (hn : n ≤ 8) : cs.length ≤ 83521 :=
  nodup_few (codeC c) h.nd (fun o ho => code_lt ((h.nr o ho).mono hn)) fun x hx y hy e => code_inj ((h.nr x hx).mono hn) ((h.nr y hy).mono hn) e
theorem SeenOk.add {f : C4 → Bool} {c o : C4} {n : Nat} {cs : List C4} (h : SeenOk f c n cs) (m : o ∉ cs) (r : Nr n c o) (y : f o = true) : SeenOk f c n (cs ++ [o]) := by
  refine ⟨?_, fun u hu => ?_, fun u hu => ?_⟩
  · rw [List.nodup_append]
    exact ⟨h.nd, by simp, fun a ha b hb => by obtain rfl := List.mem_singleton.mp hb; exact fun z => m (z ▸ ha)⟩
  · rcases List.mem_append.mp hu with hu | hu
    · exact h.nr u hu
    · obtain rfl := List.mem_singleton.mp hu
      exact r
  · rcases List.mem_append.mp hu with hu | hu
    · exact h.y u hu
    · obtain rfl := List.mem_singleton.mp hu
      exact y
/-- corners met, and new ones of this ring -/
structure RingOk (f : C4 → Bool) (c : C4) (n : Nat) (st : List C4 × List C4) : Prop where
  s : SeenOk f c n st.1
  sub : ∀ o ∈ st.2, o ∈ st.1
  le : st.2.length ≤ st.1.length
def add1 (st : List C4 × List C4) (o : C4) : List C4 × List C4 := if o ∈ st.1 then st else (st.1 ++ [o], st.2 ++ [o])
theorem RingOk.add1 {f : C4 → Bool} {c o : C4} {n : Nat} {st : List C4 × List C4} (h : RingOk f c n st) (r : Nr n c o) (y : f o = true) : RingOk f c n (add1 st o) := by
  unfold My.add1
  split
  · exact h
  · rename_i m
    refine ⟨h.s.add m r y, fun u hu => ?_, ?_⟩
    · rcases List.mem_append.mp hu with hu | hu
      · exact List.mem_append_left _ (h.sub u hu)
      · exact List.mem_append_right _ hu
    · rw [List.length_append, List.length_append]
      exact Nat.add_le_add_right h.le _
def dirsF (f : C4 → Bool) (o : C4) : List C4 := (sidesF f o 8).map fun d => stepC o d 1
theorem dirsF_mem {f : C4 → Bool} {n : Nat} {c o u : C4} (h : Nr n c o) (m : u ∈ dirsF f o) : Nr (n + 1) c u ∧ f u = true := by
  obtain ⟨d, hd, rfl⟩ := List.mem_map.mp m
  obtain ⟨k, hk, rfl, y⟩ := sidesF_mem.mp hd
  exact ⟨h.step (by omega) (by omega), y⟩
def ring1 (f : C4 → Bool) (st : List C4 × List C4) (o : C4) : List C4 × List C4 := (dirsF f o).foldl add1 st
theorem RingOk.foldl {f : C4 → Bool} {c : C4} {n : Nat} : ∀ {us : List C4} {st : List C4 × List C4}, RingOk f c n st → (∀ u ∈ us, Nr n c u ∧ f u = true) → RingOk f c n (us.foldl My.add1 st)
  | [], _, h, _ => h
  | u :: _, st, h, m => RingOk.foldl (st := My.add1 st u) (h.add1 (m u (by simp)).1 (m u (by simp)).2) fun v hv => m v (by simp [hv])
theorem RingOk.ring1 {f : C4 → Bool} {c o : C4} {n : Nat} {st : List C4 × List C4} (h : RingOk f c (n + 1) st) (r : Nr n c o) : RingOk f c (n + 1) (ring1 f st o) := h.foldl fun _ m => dirsF_mem r m
def ringA (f : C4 → Bool) (seen last : List C4) : List C4 × List C4 := last.foldl (ring1 f) (seen, [])
theorem RingOk.rings {f : C4 → Bool} {c : C4} {n : Nat} : ∀ {us : List C4} {st : List C4 × List C4}, RingOk f c (n + 1) st → (∀ u ∈ us, Nr n c u) → RingOk f c (n + 1) (us.foldl (My.ring1 f) st)
  | [], _, h, _ => h
  | u :: _, st, h, m => RingOk.rings (st := My.ring1 f st u) (h.ring1 (m u (by simp))) fun v hv => m v (by simp [hv])
/-- what is met, the last ring, all rings -/
def ringsN (f : C4 → Bool) (c : C4) : Nat → List C4 × List C4 × List (List C4)
  | 0 => ([c], [c], [[c]])
  | n + 1 => ((ringA f (ringsN f c n).1 (ringsN f c n).2.1).1, sortC (ringA f (ringsN f c n).1 (ringsN f c n).2.1).2, (ringsN f c n).2.2 ++ [sortC (ringA f (ringsN f c n).1 (ringsN f c n).2.1).2])
structure AllOk (f : C4 → Bool) (c : C4) (n : Nat) (t : List C4 × List C4 × List (List C4)) : Prop where
  s : SeenOk f c n t.1
  last : ∀ o ∈ t.2.1, o ∈ t.1
  rings : ∀ r ∈ t.2.2, ∀ o ∈ r, Nr n c o
  len : t.2.2.length = n + 1
  few : ∀ r ∈ t.2.2, n ≤ 8 → r.length ≤ 83521
theorem ringA_ok {f : C4 → Bool} {c : C4} {n : Nat} {seen last : List C4} (h : SeenOk f c n seen) (l : ∀ o ∈ last, o ∈ seen) : RingOk f c (n + 1) (ringA f seen last) :=
  RingOk.rings ⟨h.mono (by omega), (fun _ h => nomatch h), Nat.zero_le _⟩ fun u hu => h.nr u (l u hu)
theorem rings_ok {f : C4 → Bool} {c : C4} (y : f c = true) : ∀ n, AllOk f c n (ringsN f c n)
  | 0 => by
    have n0 : Nr 0 c c := by unfold Nr; omega
    exact ⟨⟨by show [c].Nodup; simp, fun o ho => by obtain rfl := List.mem_singleton.mp ho; exact n0, fun o ho => by obtain rfl := List.mem_singleton.mp ho; exact y⟩, fun _ h => h, fun r hr o ho => by obtain rfl := List.mem_singleton.mp hr; obtain rfl := List.mem_singleton.mp ho; exact n0, rfl, fun r hr _ => by obtain rfl := List.mem_singleton.mp hr; exact Nat.le_of_ble_eq_true rfl⟩
  | n + 1 => by
    have h := rings_ok y n
    have r := ringA_ok h.s h.last
    refine ⟨r.s, fun o ho => r.sub o ((sortC_perm _).mem_iff.mp ho), fun u hu o ho => ?_, ?_, fun u hu hn => ?_⟩
    · rcases List.mem_append.mp hu with hu | hu
      · exact (h.rings u hu o ho).mono (by omega)
      · obtain rfl := List.mem_singleton.mp hu
        exact r.s.nr o (r.sub o ((sortC_perm _).mem_iff.mp ho))
    · show ((ringsN f c n).2.2 ++ _).length = _
      rw [List.length_append, h.len]
      rfl
    · rcases List.mem_append.mp hu with hu | hu
      · exact h.few u hu (by omega)
      · obtain rfl := List.mem_singleton.mp hu
        rw [(sortC_perm _).length_eq]
        exact Nat.le_trans r.le (r.s.few hn)
/-- rows of corners, where N holds of each row's place -/
def RsAt (H : Hp) (N : Addr → Prop) : List V → List (List C4) → Prop
  | [], [] => True
  | v :: vs, r :: rs => (∃ l ws, v = .ref l ∧ N l ∧ H l = some (.lst ws) ∧ CsAt H ws r) ∧ RsAt H N vs rs
  | _, _ => False
theorem RsAt.keep {H H' : Hp} {N : Addr → Prop} (k : Kpt H H') (kl : ∀ l ws, N l → H l = some (.lst ws) → H' l = some (.lst ws)) : ∀ {vs : List V} {rs : List (List C4)}, RsAt H N vs rs → RsAt H' N vs rs
  | [], [], h => h
  | _ :: _, _ :: _, h => by
    obtain ⟨⟨l, ws, rfl, n, e, c⟩, t⟩ := h
    exact ⟨⟨l, ws, rfl, n, kl l ws n e, c.kpt k⟩, RsAt.keep k kl t⟩
  | [], _ :: _, h => h.elim
  | _ :: _, [], h => h.elim
theorem RsAt.same {H H' : Hp} {N : Addr → Prop} (s : Same H H') {vs : List V} {rs : List (List C4)} (h : RsAt H N vs rs) : RsAt H' N vs rs := h.keep (Kpt.same s) fun _ _ _ e => s _ _ e
theorem RsAt.len {H : Hp} {N : Addr → Prop} : ∀ {vs : List V} {rs : List (List C4)}, RsAt H N vs rs → vs.length = rs.length
  | [], [], _ => rfl
  | _ :: _, _ :: _, h => congrArg (· + 1) (RsAt.len h.2)
  | [], _ :: _, h => h.elim
  | _ :: _, [], h => h.elim
theorem RsAt.add {H : Hp} {N : Addr → Prop} {l : Addr} {ws : List V} {r : List C4} (n : N l) (e : H l = some (.lst ws)) (c : CsAt H ws r) : ∀ {vs : List V} {rs : List (List C4)}, RsAt H N vs rs → RsAt H N (vs ++ [.ref l]) (rs ++ [r])
  | [], [], _ => ⟨⟨l, ws, rfl, n, e, c⟩, trivial⟩
  | _ :: _, _ :: _, h => ⟨h.1, RsAt.add n e c h.2⟩
  | [], _ :: _, h => h.elim
  | _ :: _, [], h => h.elim
theorem RsAt.dp {K : PySem.W.Frag} {H : Hp} {N : Addr → Prop} : ∀ {vs : List V} {rs : List (List C4)}, RsAt H N vs rs → DpAll K H vs (rs.map fun r => .list (r.map corD))
  | [], [], _ => .nil
  | _ :: _, _ :: _, h => by
    obtain ⟨⟨l, ws, rfl, n, e, c⟩, t⟩ := h
    exact .cons (.lst (SqL.of e) c.dp) (RsAt.dp t)
  | [], _ :: _, h => h.elim
  | _ :: _, [], h => h.elim
theorem RsAt.get {H : Hp} {N : Addr → Prop} : ∀ {vs : List V} {rs : List (List C4)} {i : Nat} {v : V}, RsAt H N vs rs → vs[i]? = some v → ∃ l ws r, v = .ref l ∧ N l ∧ H l = some (.lst ws) ∧ CsAt H ws r ∧ r ∈ rs
  | v :: _, r :: _, 0, _, h, e => by
    cases e
    obtain ⟨⟨l, ws, e1, n, e2, c⟩, -⟩ := h
    exact ⟨l, ws, r, e1, n, e2, c, by simp⟩
  | _ :: _, _ :: _, i + 1, _, h, e => by
    obtain ⟨l, ws, r, e1, n, e2, c, m⟩ := RsAt.get (i := i) h.2 e
    exact ⟨l, ws, r, e1, n, e2, c, by simp [m]⟩
  | [], [], _, _, _, e => by simp at e
  | [], _ :: _, _, _, h, _ => h.elim
  | _ :: _, [], _, _, h, _ => h.elim
theorem foldl_take {α β : Type} {g : β → α → β} {b : β} {xs : List α} {i : Nat} {x : α} (h : xs[i]? = some x) : (xs.take (i + 1)).foldl g b = g ((xs.take i).foldl g b) x := by
  rw [List.take_add_one, h, List.foldl_append]
  rfl
theorem w_app {l : Addr} {y : V} {xs : List V} {H : Hp} {Q : VK} (h : H l = some (.lst xs)) (hl : xs.length < sizeLine) (q : ∀ H2, SameX l H H2 → Kpt H H2 → H2 l = some (.lst (xs ++ [y])) → Q .non H2) : rAppend (.ref l) [y] H Q :=
  ⟨l, xs, y, rfl, rfl, h, hl, q _ (SameX.upd fun _ _ _ e => e) (Kpt.updL h) upd_same⟩
theorem few_lt {n : Nat} (h : n ≤ 83521) : n < sizeLine := by
  rw [sizeLine_eq]
  omega
abbrev s_check_size : Stmt := top 38
theorem sc_check_size : FnScope ["size", "most"] ["size", "most"] (defScope s_check_size) := ⟨rfl, rfl, rfl, by decide +kernel, rfl, by decide +kernel, by decide +kernel⟩

def sp_check_size (Z : Zs) : Sp := fun vs H Q E =>
  ∃ (s : V) (m : Int), vs = [s, .int m] ∧ ThI Z H s ∧ ((isI s = false ∨ ∃ i, s = .int i ∧ ¬ (0 ≤ i ∧ i ≤ m)) ∧ ErX Z.c_BadSize "size" s H E ∨ ∃ i, s = .int i ∧ 0 ≤ i ∧ i ≤ m ∧ Q .non H)
theorem ok_check_size (T : Txt Z mg) (h_is_integral : Has P w Z.K mg base "is_integral" 1 ["thing"] (sp_is_integral Z)) (h_BadSize : HasX P w Z.K mg base "BadSize" Z.c_BadSize 1 ["self", "size"] (sp_BadSize_init Z)) (D : AtF Z.K mg "check_size" "check_size" s_check_size ["size", "most"]) : Has P w Z.K mg base "check_size" 3 ["size", "most"] (sp_check_size Z) := by
  refine D.ok sc_check_size (fun vs H Q E h => ?_) (fun cdv A outer s H vs Q E hr h => ?_)
  · obtain ⟨s, m, rfl, _⟩ := h
    rfl
  · refine ⟨_, (pss_one (ps_if (PW.pt (pw_or (pt_not (pt_val (pe_h (E := ED E) h_is_integral hr (paW (takes_of rfl rfl rfl rfl)) (pa_cons (pv 0) pa_nil)))) (pw_or1 (pt_not (pt_chain op_le op_le pe_int (pv 0) (pv 1)))))) (pss_one (ps_raise rfl (takes_of rfl rfl rfl rfl) (pm_h T.x_BadSize h_BadSize hr (pa_cons (pv 0) pa_nil)))) pss_nil)), ?_⟩
    try simp only [cxOf]
    obtain ⟨v, m, rfl, th, ⟨bad, er⟩ | ⟨i, rfl, i0, im, q⟩⟩ := h
    · walk_at "W"
      refine ⟨_, rfl, th, ?_⟩
      rcases bad with e | ⟨i, rfl, n⟩
      · rw [e]
        walk_at "W"
        exact k_mkO er
      · walk_at "W"
        refine w_ite (fun h1 => ?_) (fun h1 => ?_)
        · walk_at "W"
          rw [decide_eq_false (show ¬ i ≤ m by omega)]
          walk_at "W"
          exact k_mkO er
        · walk_at "W"
          exact k_mkO er
    · walk_at "W"
      refine ⟨_, rfl, th, ?_⟩
      walk_at "W"
      rw [decide_eq_true i0]
      walk_at "W"
      rw [decide_eq_true im]
      walk_at "W"
      exact q
abbrev s_Floor_around : Stmt := inClass (top 43) 10
theorem sc_Floor_around : FnScope ["self", "corner", "steps", "seen", "last", "rings", "_", "fresh", "one", "direction", "other"] ["self", "corner", "steps"] (defScope s_Floor_around) := ⟨rfl, rfl, rfl, by decide +kernel, rfl, by decide +kernel, by decide +kernel⟩

def sp_Floor_around (Z : Zs) : Sp := fun vs H Q E =>
  ∃ v o s t r b t' r' b', vs = [v, o, s] ∧ FloorAt Z H v t r b t' r' b' ∧ 0 < b ∧ 0 < b' ∧ (BadCor Z H o ∧ ErX Z.c_BadCorner "corner" o H E ∨ ∃ c, CorAt H o c ∧ C4.bw 400 c ∧ (hasB t r b t' r' b' c = false ∧ ErX Z.c_NoCorner "corner" o H E ∨ hasB t r b t' r' b' c = true ∧ ThI Z H s ∧
    ((isI s = false ∨ ∃ i, s = .int i ∧ ¬ (0 ≤ i ∧ i ≤ 8)) ∧ ErX Z.c_BadSize "size" s H E ∨ ∃ n : Nat, n ≤ 8 ∧ s = .int n ∧ ∀ l ls H', H l = none → Same H H' → H' l = some (.lst ls) → RsAt H' (fun x => x ≠ l ∧ H x = none) ls (ringsN (hasB t r b t' r' b') c n).2.2 → Q (.ref l) H')))
theorem ok_Floor_around (T : Txt Z mg) (h_step : Has P w Z.K mg base "step" 1 ["corner", "direction", "many"] (sp_step Z)) (h_check_size : Has P w Z.K mg base "check_size" 3 ["size", "most"] (sp_check_size Z)) (h_NoCorner : HasX P w Z.K mg base "NoCorner" Z.c_NoCorner 1 ["self", "corner"] (sp_NoCorner_init Z)) (h_Floorways : HasM P w Z.K mg base Z.c_Floor "_ways" 4 ["self", "corner"] (sp_Floorways Z)) (h_Floor_has_corner : HasM P w Z.K mg base Z.c_Floor "has_corner" 4 ["self", "corner"] (sp_Floor_has_corner Z)) (D : AtM Z.K Z.c_Floor "around" "Floor.around" s_Floor_around ["self", "corner", "steps"]) : HasM P w Z.K mg base Z.c_Floor "around" 5 ["self", "corner", "steps"] (sp_Floor_around Z) := by
  refine D.ok sc_Floor_around (fun vs H Q E h => ?_) (fun cdv A outer s H vs Q E hr h => ?_)
  · obtain ⟨v, o, s, t, r, b, t', r', b', rfl, _⟩ := h
    rfl
  · refine ⟨_, (pss_cons (ps_if (pt_not (pt_val (pe_hm (E := ED E) h_Floor_has_corner T.c_Floor hr (paW (takes_of rfl rfl rfl rfl)) (pv 0) (pa_cons (pv 1) pa_nil)))) (pss_one (ps_raise rfl (takes_of rfl rfl rfl rfl) (pm_h T.x_NoCorner h_NoCorner hr (pa_cons (pv 1) pa_nil)))) pss_nil)
      (pss_cons (ps_expr (pe_h (E := ED E) h_check_size hr (paW (takes_of rfl rfl rfl rfl)) (pa_cons (pv 2) (pa_cons pe_int pa_nil))))
      (pss_cons (ps_set (i := 3) sc_Floor_around.nd rfl (Or.inl rfl) (pe_dispT hr.units (pv 1) pe_bl))
      (pss_cons (ps_set (i := 4) sc_Floor_around.nd rfl (Or.inl rfl) (pe_lst (pa_cons (pv 1) pa_nil)))
      (pss_cons (ps_set (i := 5) sc_Floor_around.nd rfl (Or.inl rfl) (pe_lst (pa_cons (pv 4) pa_nil)))
      (pss_cons (ps_for (passes_of rfl) rfl (pi_range1 rfl T.n_range (pa_cons (pv 2) pa_nil)) (pg_name (i := 6) sc_Floor_around.nd rfl (Or.inl rfl)) (pss_cons (ps_set (i := 7) sc_Floor_around.nd rfl (Or.inl rfl) (pe_lst pa_nil))
      (pss_cons (ps_for (passes_of rfl) rfl (pi_list (pv 4)) (pg_name (i := 8) sc_Floor_around.nd rfl (Or.inl rfl)) (pss_one (ps_for (passes_of rfl) rfl (pi_tup (pe_hm (E := ED E) h_Floorways T.c_Floor hr (paW (takes_of rfl rfl rfl rfl)) (pv 0) (pa_cons (pv 8) pa_nil))) (pg_name (i := 9) sc_Floor_around.nd rfl (Or.inl rfl)) (pss_cons (ps_set (i := 10) sc_Floor_around.nd rfl (Or.inl rfl) (pe_h (E := ED E) h_step hr (paW (takes_of rfl rfl rfl rfl)) (pa_cons (pv 8) (pa_cons (pv 9) (pa_cons pe_int pa_nil)))))
      (pss_one (ps_if (pt_cmp (pc_dnotin (hu_of hr) (pv 10) (pv 3))) (pss_cons (ps_dput (hu_of hr) (pv 3) (pv 10) pe_bl rfl)
      (pss_one (ps_expr (pe_bm PySem.F.plainAttrs_list PySem.F.slot_list_append PySem.F.type_list_append mt_append (pv 7) (pa_cons (pv 10) pa_nil))))) pss_nil))))))
      (pss_cons (ps_set (i := 4) sc_Floor_around.nd rfl (Or.inl rfl) (pe_callB (cr_sortedD hr.units) rfl T.n_sorted (by decide +kernel) (pa_cons (pv 7) pa_nil)))
      (pss_one (ps_expr (pe_bm PySem.F.plainAttrs_list PySem.F.slot_list_append PySem.F.type_list_append mt_append (pv 5) (pa_cons (pv 4) pa_nil))))))))
      (pss_one (ps_ret (pv 5))))))))), ?_⟩
    try simp only [cxOf]
    obtain ⟨v, o, s, t, r, b, t', r', b', rfl, hf, pb, pb', hh⟩ := h
    have hf' := hf
    obtain ⟨a, dx, u, g, vx, vy, D, X1, X2, Y1, Y2, rfl, e1, -⟩ := hf'
    have meth : ∀ {m : Str} {H' : Hp} {N : Hp → Prop}, Same H H' → (m == ("shift" : Str)) = false → (m == ("_gauge" : Str)) = false → N H' → MethP Z.c_Floor m (.ref a) H' N := fun {m H' N} k n1 n2 hn => k_meth (k _ _ e1) (ff_none n1 n2) hn
    walk_at "W"
    refine meth (Same.refl _) (by decide +kernel) (by decide +kernel) ?_
    walk_at "W"
    rcases hh with ⟨bad, er⟩ | ⟨c, hc, wc, hh⟩
    · exact ⟨_, o, t, r, b, t', r', b', rfl, hf, .inr ⟨bad, er⟩⟩
    refine ⟨_, o, t, r, b, t', r', b', rfl, hf, .inl ⟨c, hc, wc.mono (by decide), fun D X1 X2 Y1 Y2 H1 s1 G => ?_⟩⟩
    rw [inW_hasB pb pb' G]
    rcases hh with ⟨no, er⟩ | ⟨y, th, hh⟩
    · rw [no]
      walk_at "W"
      exact k_mkO (er.same s1)
    rw [y]
    walk_at "W"
    rcases hh with ⟨bad, er⟩ | ⟨n, hn, rfl, q⟩
    · exact ⟨_, _, rfl, thI_same th s1, .inl ⟨bad, er.same s1⟩⟩
    refine ⟨_, _, rfl, thI_same th s1, .inr ⟨n, rfl, by omega, by omega, ?_⟩⟩
    obtain ⟨pc, rfl, hpc⟩ := hc.same s1
    walk_at "W"
    intro pd hpd
    have hpc1 : (upd H1 pd (.dT [])) pc = some (.tup [.int c.a, .int c.b, .int c.c, .int c.d]) := Same.new hpd _ _ hpc
    walk_at "W"
    refine ⟨upd_same, pc, corK c, rfl, hpc1, ?_⟩
    have s2 : Same H1 (upd (upd H1 pd (.dT [])) pd (.dT [(corK c, .bl true)])) := fun b o e => by
      rw [upd_ne (ne_of_none e hpd), upd_ne (ne_of_none e hpd)]
      exact e
    have ed : (upd (upd H1 pd (.dT [])) pd (.dT [(corK c, .bl true)])) pd = some (.dT (seenV [c])) := upd_same
    generalize (upd (upd H1 pd (.dT [])) pd (.dT [(corK c, .bl true)])) = H2 at *
    walk_at "W"
    refine k_lst rfl fun ql H3 hql s3 e3 => ?_
    walk_at "W"
    refine k_lst rfl fun pr H4 hpr s4 e4 => ?_
    have S4 := s1.trans (s2.trans (s3.trans s4))
    have npd : H pd = none := s1.free hpd
    have npr : H pr = none := (s1.trans (s2.trans s3)).free hpr
    have key := rings_ok (f := hasB t r b t' r' b') (c := c) y
    walk_at "W"
    refine k_forR (n := (n : Int)) (fun i σ' H' => ∃ ql ws ls x6 x7 x8 x9 x10, σ' = [some (.ref a), some (.ref pc), some (.int n), some (.ref pd), some (.ref ql), some (.ref pr), x6, x7, x8, x9, x10] ∧ H' pd = some (.dT (seenV (ringsN (hasB t r b t' r' b') c i).1)) ∧ ql ≠ pr ∧ H' ql = some (.lst ws) ∧ CsAt H' ws (ringsN (hasB t r b t' r' b') c i).2.1 ∧ H' pr = some (.lst ls) ∧ RsAt H' (fun x => x ≠ pr ∧ H x = none) ls (ringsN (hasB t r b t' r' b') c i).2.2 ∧ Same H H') (by omega) (by omega) ⟨ql, [.ref pc], [.ref ql], none, none, none, none, none, rfl, s4 _ _ (s3 _ _ ed), ne_of_none e3 hpr, s4 _ _ e3, ⟨⟨pc, rfl, s4 _ _ (s3 _ _ (s2 _ _ hpc))⟩, trivial⟩, e4, ⟨⟨ql, _, rfl, ⟨ne_of_none e3 hpr, (s1.trans s2).free hql⟩, s4 _ _ e3, ⟨⟨pc, rfl, s4 _ _ (s3 _ _ (s2 _ _ hpc))⟩, trivial⟩⟩, trivial⟩, S4⟩ ?_ ?_
    · rintro i σ' H5 hi ⟨ql, ws, ls, x6, x7, x8, x9, x10, rfl, hd5, nq, hq5, cs5, hr5, rs5, S5⟩
      have hi8 : i < 8 := by omega
      have ok := key i
      have ro := ringA_ok ok.s ok.last
      walk_at "W"
      refine k_lst rfl fun pf H6 hpf s6 e6 => ?_
      have hd6 := s6 _ _ hd5
      have npf : pf ≠ pd := fun z => by rw [z, hd5] at hpf; cases hpf
      walk_at "W"
      refine k_forL (xs := ws) (fun j σ' H' => ∃ vf x8 x9 x10, σ' = [some (.ref a), some (.ref pc), some (.int n), some (.ref pd), some (.ref ql), some (.ref pr), some (.int (0 + (i : Int))), some (.ref pf), x8, x9, x10] ∧ H' pf = some (.lst vf) ∧ CsAt H' vf (((ringsN (hasB t r b t' r' b') c i).2.1.take j).foldl (ring1 (hasB t r b t' r' b')) ((ringsN (hasB t r b t' r' b') c i).1, [])).2 ∧ H' pd = some (.dT (seenV (((ringsN (hasB t r b t' r' b') c i).2.1.take j).foldl (ring1 (hasB t r b t' r' b')) ((ringsN (hasB t r b t' r' b') c i).1, [])).1)) ∧ SameX pd H5 H' ∧ Kpt H5 H') (SqL.of (s6 _ _ hq5)) ⟨[], x8, x9, x10, rfl, e6, trivial, hd6, Same.x s6, Kpt.same s6⟩ (fun j σ H h => by
        obtain ⟨vf, _, _, _, _, _, _, _, xx, _⟩ := h
        exact SqL.of (xx _ _ (fun z => by rw [z, hd5] at hq5; cases hq5) hq5)) ?_ ?_
      · rintro j x σ' H7 hx ⟨vf, x8, x9, x10, rfl, hf7, cf7, hd7, x7', k7⟩
        obtain ⟨one, hone, c1⟩ := (cs5.kpt k7).get hx
        have n1 : Nr i c one := ok.s.nr one (ok.last one (List.mem_of_getElem? hone))
        have f1 : hasB t r b t' r' b' one = true := ok.s.y one (ok.last one (List.mem_of_getElem? hone))
        have w1 : C4.bw 401 one := n1.bw (by omega) (by decide) wc
        have S7 : Same H H7 := fun b o e => x7' b o (ne_of_none e npd) (S5 _ _ e)
        have rj : RingOk (hasB t r b t' r' b') c (i + 1) (((ringsN (hasB t r b t' r' b') c i).2.1.take j).foldl (ring1 (hasB t r b t' r' b')) ((ringsN (hasB t r b t' r' b') c i).1, [])) :=
          RingOk.rings ⟨ok.s.mono (by omega), (fun _ h => nomatch h), Nat.zero_le _⟩ fun u hu => ok.s.nr u (ok.last u (List.mem_of_mem_take hu))
        have nxt : (((ringsN (hasB t r b t' r' b') c i).2.1.take (j + 1)).foldl (ring1 (hasB t r b t' r' b')) ((ringsN (hasB t r b t' r' b') c i).1, [])) = ring1 (hasB t r b t' r' b') (((ringsN (hasB t r b t' r' b') c i).2.1.take j).foldl (ring1 (hasB t r b t' r' b')) ((ringsN (hasB t r b t' r' b') c i).1, [])) one := foldl_take hone
        rw [nxt]
        generalize ((ringsN (hasB t r b t' r' b') c i).2.1.take j).foldl (ring1 (hasB t r b t' r' b')) ((ringsN (hasB t r b t' r' b') c i).1, []) = st at *
        obtain ⟨po, rfl, hpo⟩ := c1
        walk_at "W"
        refine meth S7 (by decide +kernel) (by decide +kernel) ?_
        walk_at "W"
        refine ⟨_, po, one, t, r, b, t', r', b', rfl, hf.same S7, pb, pb', hpo, w1.mono (by decide), fun uw H8 huw s8 ew => ?_⟩
        have K8 := Kpt.same s8
        refine k_forT (xs := (sidesF (hasB t r b t' r' b') one 8).map V.int) (fun k σ' H' => ∃ vf x9 x10, σ' = [some (.ref a), some (.ref pc), some (.int n), some (.ref pd), some (.ref ql), some (.ref pr), some (.int (0 + (i : Int))), some (.ref pf), some (.ref po), x9, x10] ∧ H' pf = some (.lst vf) ∧ CsAt H' vf (((dirsF (hasB t r b t' r' b') one).take k).foldl add1 st).2 ∧ H' pd = some (.dT (seenV (((dirsF (hasB t r b t' r' b') one).take k).foldl add1 st).1)) ∧ (∀ b o, b ≠ pd → b ≠ pf → H8 b = some o → H' b = some o) ∧ Kpt H8 H') ew ⟨vf, x9, x10, rfl, s8 _ _ hf7, cf7.kpt K8, s8 _ _ hd7, fun _ _ _ _ e => e, Kpt.refl _⟩ (fun k σ H h => by
          obtain ⟨vf, _, _, _, _, _, _, _, kk⟩ := h
          exact kk.tup ew) ?_ ?_
        · rintro k x σ' H9 hx9 ⟨vf, x9, x10, rfl, hf9, cf9, hd9, x99, k9⟩
          rw [List.getElem?_map] at hx9
          obtain ⟨d, hd, rfl⟩ := Option.map_eq_some_iff.mp hx9
          obtain ⟨kd, hkd, rfl, yd⟩ := sidesF_mem.mp (List.mem_of_getElem? hd)
          have hdir : (dirsF (hasB t r b t' r' b') one)[k]? = some (stepC one (kd : Int) 1) := by
            unfold dirsF
            rw [List.getElem?_map, hd]
            rfl
          have rk : RingOk (hasB t r b t' r' b') c (i + 1) (((dirsF (hasB t r b t' r' b') one).take k).foldl add1 st) := RingOk.foldl rj fun u hu => dirsF_mem n1 (List.mem_of_mem_take hu)
          rw [foldl_take hdir]
          generalize ((dirsF (hasB t r b t' r' b') one).take k).foldl add1 st = sk at *
          walk_at "W"
          refine ⟨_, one, _, _, rfl, ⟨po, rfl, k9.tup (s8 _ _ hpo)⟩, by omega, by omega, fun v' H10 s10 hc10 => ?_⟩
          obtain ⟨pn, rfl, hpn⟩ := hc10
          have K10 := Kpt.same s10
          walk_at "W"
          refine k_dninT (k := corK (stepC one (kd : Int) 1)) (s10 _ _ hd9) hpn ?_
          rw [seen_val]
          by_cases m : stepC one (kd : Int) 1 ∈ sk.1
          · rw [decide_eq_true m]
            walk_at "W"
            have ea : add1 sk (stepC one (kd : Int) 1) = sk := by unfold add1; rw [if_pos m]
            rw [ea]
            exact ⟨vf, _, _, rfl, s10 _ _ hf9, cf9.kpt K10, s10 _ _ hd9, fun b o n1 n2 e => s10 _ _ (x99 b o n1 n2 e), k9.trans K10⟩
          · rw [decide_eq_false m]
            walk_at "W"
            have ea : add1 sk (stepC one (kd : Int) 1) = (sk.1 ++ [stepC one (kd : Int) 1], sk.2 ++ [stepC one (kd : Int) 1]) := by unfold add1; rw [if_neg m]
            have l1 : sk.1.length ≤ 83521 := rk.s.few (by omega)
            refine k_dputT (k := corK (stepC one (kd : Int) 1)) (s10 _ _ hd9) hpn (few_lt (by unfold seenV; rw [List.length_map]; exact l1)) ?_
            rw [seen_put m, ea]
            have KD : Kpt H10 (upd H10 pd (.dT (seenV (sk.1 ++ [stepC one (kd : Int) 1])))) := Kpt.updD (s10 _ _ hd9)
            have hf11 : (upd H10 pd (.dT (seenV (sk.1 ++ [stepC one (kd : Int) 1])))) pf = some (.lst vf) := by rw [upd_ne npf]; exact s10 _ _ hf9
            have hd11 : (upd H10 pd (.dT (seenV (sk.1 ++ [stepC one (kd : Int) 1])))) pd = some (.dT (seenV (sk.1 ++ [stepC one (kd : Int) 1]))) := upd_same
            have x11 : ∀ b o, b ≠ pd → H10 b = some o → (upd H10 pd (.dT (seenV (sk.1 ++ [stepC one (kd : Int) 1])))) b = some o := fun b o n e => by rw [upd_ne n]; exact e
            generalize upd H10 pd (.dT (seenV (sk.1 ++ [stepC one (kd : Int) 1]))) = H11 at *
            walk_at "W"
            refine k_bm hf11 ?_
            walk_at "W"
            refine w_app hf11 (few_lt (by rw [cf9.len]; exact Nat.le_trans rk.le l1)) fun H12 x12 k12 e12 => ?_
            walk_at "W"
            have K12 := KD.trans k12
            refine ⟨_, _, _, rfl, e12, ((cf9.kpt (K10.trans K12)).add (c := stepC one (kd : Int) 1) ⟨pn, rfl, K12.tup hpn⟩), ?_, fun b o n1 n2 e => ?_, k9.trans (K10.trans K12)⟩
            · exact x12 _ _ npf.symm hd11
            · exact x12 _ _ n2 (x11 _ _ n1 (s10 _ _ (x99 b o n1 n2 e)))
        · rintro σ' H9 ⟨vf, x9, x10, rfl, hf9, cf9, hd9, x99, k9⟩
          rw [List.take_of_length_le (Nat.le_of_eq (by unfold dirsF; rw [List.length_map, List.length_map]))] at cf9 hd9
          refine ⟨vf, _, _, _, rfl, hf9, cf9, hd9, fun b o n1 e => ?_, k7.trans (K8.trans k9)⟩
          exact x99 b o n1 (ne_of_none e hpf) (s8 _ _ (x7' b o n1 e))
      · rintro σ' H7 ⟨vf, x8, x9, x10, rfl, hf7, cf7, hd7, x7', k7⟩
        rw [List.take_of_length_le (Nat.le_of_eq cs5.len.symm)] at cf7 hd7
        walk_at "W"
        refine k_sortedC hf7 cf7 fun pq H8 ws8 hpq s8 e8 cs8 => ?_
        have nrd : pr ≠ pd := fun z => by rw [z, hd5] at hr5; cases hr5
        have nfr : pr ≠ pf := ne_of_none hr5 hpf
        have hr8 : H8 pr = some (.lst ls) := s8 _ _ (x7' _ _ nrd hr5)
        have nqr : pq ≠ pr := fun z => by rw [z, x7' _ _ nrd hr5] at hpq; cases hpq
        walk_at "W"
        refine k_bm hr8 ?_
        walk_at "W"
        refine w_app hr8 (sz_lt (by rw [rs5.len, ok.len]; omega)) fun H9 x9' k9 e9 => ?_
        have K8 := Kpt.same s8
        have rs9 : RsAt H9 (fun x => x ≠ pr ∧ H x = none) ls (ringsN (hasB t r b t' r' b') c i).2.2 := rs5.keep (k7.trans (K8.trans k9)) fun l ws nl e => x9' _ _ nl.1 (s8 _ _ (x7' _ _ (fun z => by rw [z, hd5] at e; cases e) e))
        refine ⟨pq, ws8, _, _, _, _, _, _, rfl, ?_, nqr, x9' _ _ nqr e8, cs8.kpt k9, e9, rs9.add ⟨nqr, Same.free (fun b o e => x7' b o (ne_of_none e npd) (S5 _ _ e)) hpq⟩ (x9' _ _ nqr e8) (cs8.kpt k9), fun b o e => ?_⟩
        · exact x9' _ _ nrd.symm (s8 _ _ hd7)
        · exact x9' _ _ (ne_of_none e npr) (s8 _ _ (x7' _ _ (ne_of_none e npd) (S5 _ _ e)))
    · rintro σ' H5 ⟨ql, ws, ls, x6, x7, x8, x9, x10, rfl, hd5, nq, hq5, cs5, hr5, rs5, S5⟩
      walk_at "W"
      exact q pr ls H5 npr S5 hr5 rs5
abbrev s__law_rings : Stmt := top 70
theorem sc__law_rings : FnScope ["shift", "corner", "steps", "known", "rings", "k", "ring", "one", "way", "later"] ["shift", "corner", "steps"] (defScope s__law_rings) := ⟨rfl, rfl, rfl, by decide +kernel, rfl, by decide +kernel, by decide +kernel⟩

def sp__law_rings (Z : Zs) : Sp := fun vs H Q E =>
  ∃ w p c n T R B T' R' B', vs = [.ref w, .ref p, .int ((n : Nat) : Int)] ∧ n ≤ 8 ∧ ShAt H w T R B T' R' B' ∧ ShB T R B T' R' B' ∧ H p = some (.tup [.int (c : C4).a, .int c.b, .int c.c, .int c.d]) ∧ C4.bw 127 c ∧ hasB T R B T' R' B' c = true ∧ ∀ l ls H', H l = none → Same H H' → H' l = some (.lst ls) → RsAt H' (fun x => x ≠ l ∧ H x = none) ls (ringsN (hasB T R B T' R' B') c n).2.2 → Q (.ref l) H'
theorem ok__law_rings (T : Txt Z mg) (h__law_sides : Has P w Z.K mg base "_law_sides" 5 ["shift", "corner"] (sp__law_sides Z)) (h__law_step : Has P w Z.K mg base "_law_step" 1 ["corner", "way", "many"] (sp__law_step Z)) (D : AtF Z.K mg "_law_rings" "_law_rings" s__law_rings ["shift", "corner", "steps"]) : Has P w Z.K mg base "_law_rings" 6 ["shift", "corner", "steps"] (sp__law_rings Z) := by
  refine D.ok sc__law_rings (fun vs H Q E h => ?_) (fun cdv A outer s H vs Q E hr h => ?_)
  · obtain ⟨w, p, c, n, T, R, B, T', R', B', rfl, _⟩ := h
    rfl
  · refine ⟨_, (pss_cons (ps_set (i := 3) sc__law_rings.nd rfl (Or.inl rfl) (pe_dispT hr.units (pv 1) pe_bl))
      (pss_cons (ps_set (i := 4) sc__law_rings.nd rfl (Or.inl rfl) (pe_lst (pa_cons (pe_lst (pa_cons (pv 1) pa_nil)) pa_nil)))
      (pss_cons (ps_for (passes_of rfl) rfl (pi_range1 rfl T.n_range (pa_cons (pv 2) pa_nil)) (pg_name (i := 5) sc__law_rings.nd rfl (Or.inl rfl)) (pss_cons (ps_set (i := 6) sc__law_rings.nd rfl (Or.inl rfl) (pe_lst pa_nil))
      (pss_cons (ps_for (passes_of rfl) rfl (pi_list (pe_ix ix_seq (pv 4) (pe_un un_neg pe_int) (fun _ _ => rfl))) (pg_name (i := 7) sc__law_rings.nd rfl (Or.inl rfl)) (pss_one (ps_for (passes_of rfl) rfl (pi_list (pe_h (E := ED E) h__law_sides hr (paW (takes_of rfl rfl rfl rfl)) (pa_cons (pv 0) (pa_cons (pv 7) pa_nil)))) (pg_name (i := 8) sc__law_rings.nd rfl (Or.inl rfl)) (pss_cons (ps_set (i := 9) sc__law_rings.nd rfl (Or.inl rfl) (pe_h (E := ED E) h__law_step hr (paW (takes_of rfl rfl rfl rfl)) (pa_cons (pv 7) (pa_cons (pv 8) (pa_cons pe_int pa_nil)))))
      (pss_one (ps_if (pt_cmp (pc_dnotin (hu_of hr) (pv 9) (pv 3))) (pss_cons (ps_dput (hu_of hr) (pv 3) (pv 9) pe_bl rfl)
      (pss_one (ps_expr (pe_bm PySem.F.plainAttrs_list PySem.F.slot_list_append PySem.F.type_list_append mt_append (pv 6) (pa_cons (pv 9) pa_nil))))) pss_nil))))))
      (pss_one (ps_expr (pe_bm PySem.F.plainAttrs_list PySem.F.slot_list_append PySem.F.type_list_append mt_append (pv 4) (pa_cons (pe_callB (cr_sortedD hr.units) rfl T.n_sorted (by decide +kernel) (pa_cons (pv 6) pa_nil)) pa_nil)))))))
      (pss_one (ps_ret (pv 4)))))), ?_⟩
    try simp only [cxOf]
    obtain ⟨w, pc, c, n, t, r, b, t', r', b', rfl, hn, shp, sb, hpc, wc, y, q⟩ := h
    walk_at "W"
    intro pd hpd
    have hpc1 : (upd H pd (.dT [])) pc = some (.tup [.int c.a, .int c.b, .int c.c, .int c.d]) := Same.new hpd _ _ hpc
    walk_at "W"
    refine ⟨upd_same, pc, corK c, rfl, hpc1, ?_⟩
    have s2 : Same H (upd (upd H pd (.dT [])) pd (.dT [(corK c, .bl true)])) := fun b o e => by
      rw [upd_ne (ne_of_none e hpd), upd_ne (ne_of_none e hpd)]
      exact e
    have ed : (upd (upd H pd (.dT [])) pd (.dT [(corK c, .bl true)])) pd = some (.dT (seenV [c])) := upd_same
    generalize (upd (upd H pd (.dT [])) pd (.dT [(corK c, .bl true)])) = H2 at *
    walk_at "W"
    refine k_lst rfl fun ql H3 hql s3 e3 => ?_
    walk_at "W"
    refine k_lst rfl fun pr H4 hpr s4 e4 => ?_
    have S4 := s2.trans (s3.trans s4)
    have npd : H pd = none := hpd
    have npr : H pr = none := (s2.trans s3).free hpr
    have key := rings_ok (f := hasB t r b t' r' b') (c := c) y
    walk_at "W"
    refine k_forR (n := (n : Int)) (fun i σ' H' => ∃ ql ws ls x5 x6 x7 x8 x9, σ' = [some (.ref w), some (.ref pc), some (.int n), some (.ref pd), some (.ref pr), x5, x6, x7, x8, x9] ∧ H' pd = some (.dT (seenV (ringsN (hasB t r b t' r' b') c i).1)) ∧ ql ≠ pr ∧ H' ql = some (.lst ws) ∧ CsAt H' ws (ringsN (hasB t r b t' r' b') c i).2.1 ∧ H' pr = some (.lst (ls ++ [.ref ql])) ∧ RsAt H' (fun x => x ≠ pr ∧ H x = none) (ls ++ [.ref ql]) (ringsN (hasB t r b t' r' b') c i).2.2 ∧ Same H H') (by omega) (by omega) ⟨ql, [.ref pc], [], none, none, none, none, none, rfl, s4 _ _ (s3 _ _ ed), ne_of_none e3 hpr, s4 _ _ e3, ⟨⟨pc, rfl, S4 _ _ hpc⟩, trivial⟩, e4, (show RsAt H4 (fun x => x ≠ pr ∧ H x = none) [.ref ql] [[c]] from ⟨⟨ql, [.ref pc], rfl, ⟨ne_of_none e3 hpr, s2.free hql⟩, s4 _ _ e3, ⟨⟨pc, rfl, S4 _ _ hpc⟩, trivial⟩⟩, trivial⟩), S4⟩ ?_ ?_
    · rintro i σ' H5 hi ⟨ql, ws, ls, x5, x6, x7, x8, x9, rfl, hd5, nq, hq5, cs5, hr5, rs5, S5⟩
      have hi8 : i < 8 := by omega
      have ok := key i
      have ro := ringA_ok ok.s ok.last
      walk_at "W"
      refine k_lst rfl fun pf H6 hpf s6 e6 => ?_
      have hd6 := s6 _ _ hd5
      have npf : pf ≠ pd := fun z => by rw [z, hd5] at hpf; cases hpf
      walk_at "W"
      refine w_ixL (s6 _ _ hr5) (atI_last _ _) ?_
      refine k_forL (xs := ws) (fun j σ' H' => ∃ vf x7 x8 x9, σ' = [some (.ref w), some (.ref pc), some (.int n), some (.ref pd), some (.ref pr), some (.int (0 + (i : Int))), some (.ref pf), x7, x8, x9] ∧ H' pf = some (.lst vf) ∧ CsAt H' vf (((ringsN (hasB t r b t' r' b') c i).2.1.take j).foldl (ring1 (hasB t r b t' r' b')) ((ringsN (hasB t r b t' r' b') c i).1, [])).2 ∧ H' pd = some (.dT (seenV (((ringsN (hasB t r b t' r' b') c i).2.1.take j).foldl (ring1 (hasB t r b t' r' b')) ((ringsN (hasB t r b t' r' b') c i).1, [])).1)) ∧ SameX pd H5 H' ∧ Kpt H5 H') (SqL.of (s6 _ _ hq5)) ⟨[], x7, x8, x9, rfl, e6, trivial, hd6, Same.x s6, Kpt.same s6⟩ (fun j σ H h => by
        obtain ⟨vf, _, _, _, _, _, _, _, xx, _⟩ := h
        exact SqL.of (xx _ _ (fun z => by rw [z, hd5] at hq5; cases hq5) hq5)) ?_ ?_
      · rintro j x σ' H7 hx ⟨vf, x7, x8, x9, rfl, hf7, cf7, hd7, x7', k7⟩
        obtain ⟨one, hone, c1⟩ := (cs5.kpt k7).get hx
        have n1 : Nr i c one := ok.s.nr one (ok.last one (List.mem_of_getElem? hone))
        have w1 : C4.bw 128 one := n1.bw (by omega) (by decide) wc
        have S7 : Same H H7 := fun b o e => x7' b o (ne_of_none e npd) (S5 _ _ e)
        have rj : RingOk (hasB t r b t' r' b') c (i + 1) (((ringsN (hasB t r b t' r' b') c i).2.1.take j).foldl (ring1 (hasB t r b t' r' b')) ((ringsN (hasB t r b t' r' b') c i).1, [])) :=
          RingOk.rings ⟨ok.s.mono (by omega), (fun _ h => nomatch h), Nat.zero_le _⟩ fun u hu => ok.s.nr u (ok.last u (List.mem_of_mem_take hu))
        have nxt : (((ringsN (hasB t r b t' r' b') c i).2.1.take (j + 1)).foldl (ring1 (hasB t r b t' r' b')) ((ringsN (hasB t r b t' r' b') c i).1, [])) = ring1 (hasB t r b t' r' b') (((ringsN (hasB t r b t' r' b') c i).2.1.take j).foldl (ring1 (hasB t r b t' r' b')) ((ringsN (hasB t r b t' r' b') c i).1, [])) one := foldl_take hone
        rw [nxt]
        generalize ((ringsN (hasB t r b t' r' b') c i).2.1.take j).foldl (ring1 (hasB t r b t' r' b')) ((ringsN (hasB t r b t' r' b') c i).1, []) = st at *
        obtain ⟨po, rfl, hpo⟩ := c1
        walk_at "W"
        refine ⟨w, po, one, t, r, b, t', r', b', rfl, shp.kps (Kps.same S7), sb, hpo, w1.mono (by decide), fun uw H8 huw s8 ew => ?_⟩
        have K8 := Kpt.same s8
        have nud : uw ≠ pd := fun z => by rw [z, hd7] at huw; cases huw
        have nuf : uw ≠ pf := fun z => by rw [z, hf7] at huw; cases huw
        refine k_forL (xs := (sidesF (hasB t r b t' r' b') one 8).map V.int) (fun k σ' H' => ∃ vf x8 x9, σ' = [some (.ref w), some (.ref pc), some (.int n), some (.ref pd), some (.ref pr), some (.int (0 + (i : Int))), some (.ref pf), some (.ref po), x8, x9] ∧ H' pf = some (.lst vf) ∧ CsAt H' vf (((dirsF (hasB t r b t' r' b') one).take k).foldl add1 st).2 ∧ H' pd = some (.dT (seenV (((dirsF (hasB t r b t' r' b') one).take k).foldl add1 st).1)) ∧ (∀ b o, b ≠ pd → b ≠ pf → H8 b = some o → H' b = some o) ∧ Kpt H8 H') (SqL.of ew) ⟨vf, x8, x9, rfl, s8 _ _ hf7, cf7.kpt K8, s8 _ _ hd7, fun _ _ _ _ e => e, Kpt.refl _⟩ (fun k σ H h => by
          obtain ⟨vf, _, _, _, _, _, _, xx, kk⟩ := h
          exact SqL.of (xx _ _ nud nuf ew)) ?_ ?_
        · rintro k x σ' H9 hx9 ⟨vf, x8, x9, rfl, hf9, cf9, hd9, x99, k9⟩
          rw [List.getElem?_map] at hx9
          obtain ⟨d, hd, rfl⟩ := Option.map_eq_some_iff.mp hx9
          obtain ⟨kd, hkd, rfl, yd⟩ := sidesF_mem.mp (List.mem_of_getElem? hd)
          have hdir : (dirsF (hasB t r b t' r' b') one)[k]? = some (stepC one (kd : Int) 1) := by
            unfold dirsF
            rw [List.getElem?_map, hd]
            rfl
          have rk : RingOk (hasB t r b t' r' b') c (i + 1) (((dirsF (hasB t r b t' r' b') one).take k).foldl add1 st) := RingOk.foldl rj fun u hu => dirsF_mem n1 (List.mem_of_mem_take hu)
          rw [foldl_take hdir]
          generalize ((dirsF (hasB t r b t' r' b') one).take k).foldl add1 st = sk at *
          walk_at "W"
          refine ⟨po, one, _, _, rfl, k9.tup (s8 _ _ hpo), by omega, by omega, fun pn H10 hpn0 s10 hpn => ?_⟩
          have K10 := Kpt.same s10
          walk_at "W"
          refine k_dninT (k := corK (stepC one (kd : Int) 1)) (s10 _ _ hd9) hpn ?_
          rw [seen_val]
          by_cases m : stepC one (kd : Int) 1 ∈ sk.1
          · rw [decide_eq_true m]
            walk_at "W"
            have ea : add1 sk (stepC one (kd : Int) 1) = sk := by unfold add1; rw [if_pos m]
            rw [ea]
            exact ⟨vf, _, _, rfl, s10 _ _ hf9, cf9.kpt K10, s10 _ _ hd9, fun b o n1 n2 e => s10 _ _ (x99 b o n1 n2 e), k9.trans K10⟩
          · rw [decide_eq_false m]
            walk_at "W"
            have ea : add1 sk (stepC one (kd : Int) 1) = (sk.1 ++ [stepC one (kd : Int) 1], sk.2 ++ [stepC one (kd : Int) 1]) := by unfold add1; rw [if_neg m]
            have l1 : sk.1.length ≤ 83521 := rk.s.few (by omega)
            refine k_dputT (k := corK (stepC one (kd : Int) 1)) (s10 _ _ hd9) hpn (few_lt (by unfold seenV; rw [List.length_map]; exact l1)) ?_
            rw [seen_put m, ea]
            have KD : Kpt H10 (upd H10 pd (.dT (seenV (sk.1 ++ [stepC one (kd : Int) 1])))) := Kpt.updD (s10 _ _ hd9)
            have hf11 : (upd H10 pd (.dT (seenV (sk.1 ++ [stepC one (kd : Int) 1])))) pf = some (.lst vf) := by rw [upd_ne npf]; exact s10 _ _ hf9
            have hd11 : (upd H10 pd (.dT (seenV (sk.1 ++ [stepC one (kd : Int) 1])))) pd = some (.dT (seenV (sk.1 ++ [stepC one (kd : Int) 1]))) := upd_same
            have x11 : ∀ b o, b ≠ pd → H10 b = some o → (upd H10 pd (.dT (seenV (sk.1 ++ [stepC one (kd : Int) 1])))) b = some o := fun b o n e => by rw [upd_ne n]; exact e
            generalize upd H10 pd (.dT (seenV (sk.1 ++ [stepC one (kd : Int) 1]))) = H11 at *
            walk_at "W"
            refine k_bm hf11 ?_
            walk_at "W"
            refine w_app hf11 (few_lt (by rw [cf9.len]; exact Nat.le_trans rk.le l1)) fun H12 x12 k12 e12 => ?_
            walk_at "W"
            have K12 := KD.trans k12
            refine ⟨_, _, _, rfl, e12, ((cf9.kpt (K10.trans K12)).add (c := stepC one (kd : Int) 1) ⟨pn, rfl, K12.tup hpn⟩), ?_, fun b o n1 n2 e => ?_, k9.trans (K10.trans K12)⟩
            · exact x12 _ _ npf.symm hd11
            · exact x12 _ _ n2 (x11 _ _ n1 (s10 _ _ (x99 b o n1 n2 e)))
        · rintro σ' H9 ⟨vf, x8, x9, rfl, hf9, cf9, hd9, x99, k9⟩
          rw [List.take_of_length_le (Nat.le_of_eq (by unfold dirsF; rw [List.length_map, List.length_map]))] at cf9 hd9
          refine ⟨vf, _, _, _, rfl, hf9, cf9, hd9, fun b o n1 e => ?_, k7.trans (K8.trans k9)⟩
          exact x99 b o n1 (ne_of_none e hpf) (s8 _ _ (x7' b o n1 e))
      · rintro σ' H7 ⟨vf, x7, x8, x9, rfl, hf7, cf7, hd7, x7', k7⟩
        rw [List.take_of_length_le (Nat.le_of_eq cs5.len.symm)] at cf7 hd7
        have nrd : pr ≠ pd := fun z => by rw [z, hd5] at hr5; cases hr5
        have nfr : pr ≠ pf := ne_of_none hr5 hpf
        have hr7 : H7 pr = some (.lst (ls ++ [.ref ql])) := x7' _ _ nrd hr5
        walk_at "W"
        refine k_bm hr7 ?_
        walk_at "W"
        refine k_sortedC hf7 cf7 fun pq H8 ws8 hpq s8 e8 cs8 => ?_
        have hr8 := s8 _ _ hr7
        have nqr : pq ≠ pr := fun z => by rw [z, hr7] at hpq; cases hpq
        walk_at "W"
        refine w_app hr8 (sz_lt (by rw [rs5.len, ok.len]; omega)) fun H9 x9' k9 e9 => ?_
        have K8 := Kpt.same s8
        have rs9 : RsAt H9 (fun x => x ≠ pr ∧ H x = none) (ls ++ [.ref ql]) (ringsN (hasB t r b t' r' b') c i).2.2 := rs5.keep (k7.trans (K8.trans k9)) fun l ws nl e => x9' _ _ nl.1 (s8 _ _ (x7' _ _ (fun z => by rw [z, hd5] at e; cases e) e))
        refine ⟨pq, ws8, _, _, _, _, _, _, rfl, ?_, nqr, x9' _ _ nqr e8, cs8.kpt k9, e9, rs9.add ⟨nqr, Same.free (fun b o e => x7' b o (ne_of_none e npd) (S5 _ _ e)) hpq⟩ (x9' _ _ nqr e8) (cs8.kpt k9), fun b o e => ?_⟩
        · exact x9' _ _ nrd.symm (s8 _ _ hd7)
        · exact x9' _ _ (ne_of_none e npr) (s8 _ _ (x7' _ _ (ne_of_none e npd) (S5 _ _ e)))
    · rintro σ' H5 ⟨ql, ws, ls, x5, x6, x7, x8, x9, rfl, hd5, nq, hq5, cs5, hr5, rs5, S5⟩
      walk_at "W"
      exact q pr _ H5 npr S5 hr5 rs5
theorem rs_lay : ∀ r : List C4, PyData.canLayAll0 (r.map corD) = true
  | [] => rfl
  | _ :: r => by
    show PyData.canLayAll0 (corD _ :: r.map corD) = true
    rw [PyData.canLayAll0, rs_lay r]
    rfl
theorem rs_dep : ∀ r : List C4, PyData.depthAll (r.map corD) ≤ 2
  | [] => Nat.zero_le _
  | c :: r => by
    have h := rs_dep r
    have : (corD c).depth ≤ 1 := Nat.le_of_ble_eq_true rfl
    show PyData.depthAll (corD c :: r.map corD) ≤ 2
    rw [PyData.depthAll]
    omega
def ringsD (rs : List (List C4)) : PyData := .list (rs.map fun r => .list (r.map corD))
theorem rr_lay : ∀ rs : List (List C4), PyData.canLayAll0 (rs.map fun r => PyData.list (r.map corD)) = true
  | [] => rfl
  | r :: rs => by
    show PyData.canLayAll0 (PyData.list (r.map corD) :: rs.map fun r => PyData.list (r.map corD)) = true
    rw [PyData.canLayAll0, rr_lay rs, PyData.canLay0, rs_lay r]
    rfl
theorem rr_dep : ∀ rs : List (List C4), PyData.depthAll (rs.map fun r => PyData.list (r.map corD)) ≤ 4
  | [] => Nat.zero_le _
  | r :: rs => by
    have h := rr_dep rs
    have h2 := rs_dep r
    show PyData.depthAll (PyData.list (r.map corD) :: rs.map fun r => PyData.list (r.map corD)) ≤ 4
    rw [PyData.depthAll, PyData.depth]
    omega
theorem rings_shaped (rs : List (List C4)) : SeqAt.shaped (ringsD rs) = true := by
  unfold SeqAt.shaped ringsD
  rw [PyData.canLay0, rr_lay, Bool.true_and, PyData.depth]
  have := rr_dep rs
  exact decide_eq_true (by omega)
theorem rings_dp {K : PySem.W.Frag} {H : Hp} {l : Addr} {N : Addr → Prop} {ls : List V} {rs : List (List C4)} (e : H l = some (.lst ls)) (h : RsAt H N ls rs) : Dp K H (.ref l) (ringsD rs) := .lst (SqL.of e) h.dp
abbrev s__law_asked : Stmt := top 68
theorem sc__law_asked : FnScope ["floor", "corner", "steps", "found", "e"] ["floor", "corner", "steps"] (defScope s__law_asked) := ⟨rfl, rfl, rfl, by decide +kernel, rfl, by decide +kernel, by decide +kernel⟩

def sp__law_asked (Z : Zs) : Sp := fun vs H Q E =>
  ∃ v o s t r b t' r' b', vs = [v, o, s] ∧ FloorAt Z H v t r b t' r' b' ∧ 0 < b ∧ 0 < b' ∧ (BadCor Z H o ∧ (∀ u H', Same H H' → H' u = some (.tup [.str "bad", o]) → Q (.ref u) H') ∨ ∃ c, CorAt H o c ∧ C4.bw 400 c ∧ (hasB t r b t' r' b' c = false ∧ (∀ u H', Same H H' → H' u = some (.tup [.str "none", o]) → Q (.ref u) H') ∨ hasB t r b t' r' b' c = true ∧ ThI Z H s ∧
    ((isI s = false ∨ ∃ i, s = .int i ∧ ¬ (0 ≤ i ∧ i ≤ 8)) ∧ (∀ u H', Same H H' → H' u = some (.tup [.str "size", s]) → Q (.ref u) H') ∨ ∃ n : Nat, n ≤ 8 ∧ s = .int n ∧ ∀ u H', Same H H' → H' u = some (.tup [.str "told", .non]) → Q (.ref u) H')))
theorem ok__law_asked (T : Txt Z mg) (h_Floor_around : HasM P w Z.K mg base Z.c_Floor "around" 5 ["self", "corner", "steps"] (sp_Floor_around Z)) (D : AtF Z.K mg "_law_asked" "_law_asked" s__law_asked ["floor", "corner", "steps"]) : Has P w Z.K mg base "_law_asked" 6 ["floor", "corner", "steps"] (sp__law_asked Z) := by
  refine D.ok sc__law_asked (fun vs H Q E h => ?_) (fun cdv A outer s H vs Q E hr h => ?_)
  · obtain ⟨v, o, s, t, r, b, t', r', b', rfl, _⟩ := h
    rfl
  · refine ⟨_, (pss_cons (ps_set (i := 3) sc__law_asked.nd rfl (Or.inl rfl) (pe_tup (pa_cons pe_str (pa_cons pe_non pa_nil))))
      (pss_cons (ps_try_clauses (tb := fun W => tDrop (tMethS Z.c_Floor "around" (sp_Floor_around Z) (WE W) (tVar 0) (tCons (tVar 1) (tCons (tVar 2) tNil)))) rfl rfl takes0 (fun W pn xe tk po => (pss_one (ps_expr (pe_hm (E := WE W) h_Floor_around T.c_Floor hr (paW tk) (pv 0) (pa_cons (pv 1) (pa_cons (pv 2) pa_nil)))))) (ClausesOk.cons (c := .ref Z.c_BadCorner) (i := 4) sc__law_asked.nd rfl rfl ⟨rfl, by decide, Or.inl T.g_BadCorner⟩ (fun a oe cls d pn hz hf => (pss_one (ps_set (i := 3) sc__law_asked.nd rfl (Or.inl rfl) (pe_tup (pa_cons pe_str (pa_cons (pe_xf T.xf_BadCorner T.xn_BadCorner hz hf (pv 4)) pa_nil)))))) (ClausesOk.cons (c := .ref Z.c_NoCorner) (i := 4) sc__law_asked.nd rfl rfl ⟨rfl, by decide, Or.inl T.g_NoCorner⟩ (fun a oe cls d pn hz hf => (pss_one (ps_set (i := 3) sc__law_asked.nd rfl (Or.inl rfl) (pe_tup (pa_cons pe_str (pa_cons (pe_xf T.xf_NoCorner T.xn_NoCorner hz hf (pv 4)) pa_nil)))))) (ClausesOk.cons (c := .ref Z.c_BadSize) (i := 4) sc__law_asked.nd rfl rfl ⟨rfl, by decide, Or.inl T.g_BadSize⟩ (fun a oe cls d pn hz hf => (pss_one (ps_set (i := 3) sc__law_asked.nd rfl (Or.inl rfl) (pe_tup (pa_cons pe_str (pa_cons (pe_xf T.xf_BadSize T.xn_BadSize hz hf (pv 4)) pa_nil)))))) ClausesOk.nil))))
      (pss_one (ps_ret (pv 3))))), ?_⟩
    try simp only [cxOf]
    obtain ⟨v, o, s, t, r, b, t', r', b', rfl, hf, pb, pb', hh⟩ := h
    walk_at "W"
    refine k_tup rfl fun u1 H1 hu1 s1 e1 => ?_
    have hf1 := hf.same s1
    obtain ⟨a, dx, u, g, vx, vy, B, X1, X2, Y1, Y2, rfl, f1, rest⟩ := hf1
    walk_at "W"
    refine k_meth f1 (ff_none (by decide +kernel) (by decide +kernel)) ?_
    walk_at "W"
    refine ⟨_, o, s, t, r, b, t', r', b', rfl, hf.same s1, pb, pb', ?_⟩
    rcases hh with ⟨bad, q⟩ | ⟨c, hc, wc, hh⟩
    · refine .inl ⟨bad.same s1, fun d H2 hd s2 e2 => k_cl1 T.xm_BadCorner fun a0 ha0 => ?_⟩
      dsimp only
      walk_at "W"
      refine k_xf e2 ?_
      walk_at "W"
      refine k_tup rfl fun u3 H3 hu3 s3 e3 => ?_
      walk_at "W"
      exact q u3 H3 (s1.trans (s2.trans s3)) e3
    refine .inr ⟨c, hc.same s1, wc, ?_⟩
    rcases hh with ⟨no, q⟩ | ⟨y, th, ⟨bad, q⟩ | ⟨n, hn, rfl, q⟩⟩
    · refine .inl ⟨no, fun d H2 hd s2 e2 => k_cl2 T.xo_NoCorner_BadCorner (k_cl1 T.xm_NoCorner fun a0 ha0 => ?_)⟩
      dsimp only
      walk_at "W"
      refine k_xf e2 ?_
      walk_at "W"
      refine k_tup rfl fun u3 H3 hu3 s3 e3 => ?_
      walk_at "W"
      exact q u3 H3 (s1.trans (s2.trans s3)) e3
    · refine .inr ⟨y, thI_same th s1, .inl ⟨bad, fun d H2 hd s2 e2 => k_cl2 T.xo_BadSize_BadCorner (k_cl2 T.xo_BadSize_NoCorner (k_cl1 T.xm_BadSize fun a0 ha0 => ?_))⟩⟩
      dsimp only
      walk_at "W"
      refine k_xf e2 ?_
      walk_at "W"
      refine k_tup rfl fun u3 H3 hu3 s3 e3 => ?_
      walk_at "W"
      exact q u3 H3 (s1.trans (s2.trans s3)) e3
    · refine .inr ⟨y, thI_same th s1, .inr ⟨n, hn, rfl, fun l ls H2 hl s2 e2 rs2 => ?_⟩⟩
      walk_at "W"
      exact q u1 H2 (s1.trans s2) (s2 _ _ e1)
theorem k_eqSame {K : PySem.W.Frag} {H : Hp} {Q : VK} {s : Str} {u v : Addr} {x : V} {d : PyData} (hu : H u = some (.tup [.str s, x])) (hv : H v = some (.tup [.str s, x])) (ls : PyData.canLay0 (.str s) = true) (dx : Dp K H x d) (ly : d.canLay0 = true) (de : d.depth ≤ 10) (q : Q (.bl true) H) : rEqD K (.ref u) (.ref v) H Q := by
  have l2 : PyData.canLay0 (.tuple [.str s, d]) = true := by
    simp only [PyData.canLay0] at ls
    simp only [PyData.canLay0, PyData.canLayAll0, ly, ls, Bool.and_self]
  have sh : SeqAt.shaped (.tuple [.str s, d]) = true := by
    unfold SeqAt.shaped
    rw [l2, Bool.true_and]
    simp only [PyData.depth, PyData.depthAll]
    exact decide_eq_true (by omega)
  refine ⟨_, _, .tup (SqT.of hu) (.cons (.str _) (.cons dx .nil)), .tup (SqT.of hv) (.cons (.str _) (.cons dx .nil)), sh, sh, ?_⟩
  rw [SeqAt.eqv_refl _ l2]
  exact q
abbrev s__law_refusals : Stmt := top 69
theorem sc__law_refusals : FnScope ["state", "floor", "shift", "corner", "steps", "bad", "off", "told"] ["state", "floor", "shift", "corner"] (defScope s__law_refusals) := ⟨rfl, rfl, rfl, by decide +kernel, rfl, by decide +kernel, by decide +kernel⟩

def sp__law_refusals (Z : Zs) : Sp := fun vs H Q E =>
  ∃ st sc v w p c T R B T' R' B', vs = [.ref st, v, .ref w, .ref p] ∧ StA H st sc ∧ FloorAt Z H v (lowT T R B) (lowR T R B) (lowB T R B) (lowT T' R' B') (lowR T' R' B') (lowB T' R' B') ∧ ShAt H w T R B T' R' B' ∧ ShB T R B T' R' B' ∧ H p = some (.tup [.int (c : C4).a, .int c.b, .int c.c, .int c.d]) ∧ C4.bw 84 c ∧ hasB T R B T' R' B' c = true ∧ ∀ H', SameX st H H' → StA H' st sc → Q (.bl true) H'
theorem ok__law_refusals (T : Txt Z mg) (h__law_asked : Has P w Z.K mg base "_law_asked" 6 ["floor", "corner", "steps"] (sp__law_asked Z)) (h__law_has : Has P w Z.K mg base "_law_has" 4 ["shift", "corner"] (sp__law_has Z)) (h__law_far : Has P w Z.K mg base "_law_far" 3 ["state", "corner"] (sp__law_far Z)) (h__law_bad_corner : Has P w Z.K mg base "_law_bad_corner" 3 ["state", "corner"] (sp__law_bad_corner Z)) (h__law_draw : Has P w Z.K mg base "_law_draw" 2 ["state", "many"] (sp__law_draw Z)) (D : AtF Z.K mg "_law_refusals" "_law_refusals" s__law_refusals ["state", "floor", "shift", "corner"]) : Has P w Z.K mg base "_law_refusals" 7 ["state", "floor", "shift", "corner"] (sp__law_refusals Z) := by
  refine D.ok sc__law_refusals (fun vs H Q E h => ?_) (fun cdv A outer s H vs Q E hr h => ?_)
  · obtain ⟨st, sc, v, w, p, c, T, R, B, T', R', B', rfl, _⟩ := h
    rfl
  · refine ⟨_, (pss_cons (ps_set (i := 4) sc__law_refusals.nd rfl (Or.inl rfl) (pe_ix ix_seq (pe_lst (pa_cons pe_int (pa_cons (pe_un un_neg pe_int) (pa_cons pe_bl (pa_cons pe_non (pa_cons pe_str (pa_cons pe_int pa_nil))))))) (pe_h (E := ED E) h__law_draw hr (paW (takes_of rfl rfl rfl rfl)) (pa_cons (pv 0) (pa_cons pe_int pa_nil))) (fun _ _ => rfl)))
      (pss_cons (ps_set (i := 5) sc__law_refusals.nd rfl (Or.inl rfl) (pe_h (E := ED E) h__law_bad_corner hr (paW (takes_of rfl rfl rfl rfl)) (pa_cons (pv 0) (pa_cons (pv 3) pa_nil))))
      (pss_cons (ps_if (pt_cmpR (op_neD hr.units) (pe_h (E := ED E) h__law_asked hr (paW (takes_of rfl rfl rfl rfl)) (pa_cons (pv 1) (pa_cons (pv 5) (pa_cons (pv 4) pa_nil)))) (pe_tup (pa_cons pe_str (pa_cons (pv 5) pa_nil))) (nomark _)) (pss_one (ps_ret pe_bl)) pss_nil)
      (pss_cons (ps_set (i := 6) sc__law_refusals.nd rfl (Or.inl rfl) (pe_h (E := ED E) h__law_far hr (paW (takes_of rfl rfl rfl rfl)) (pa_cons (pv 0) (pa_cons (pv 3) pa_nil))))
      (C8.pss_cut (ps_if (PW.pt (pw_and (pt_not (pt_val (pe_h (E := ED E) h__law_has hr (paW (takes_of rfl rfl rfl rfl)) (pa_cons (pv 2) (pa_cons (pv 6) pa_nil))))) (pw_and1 (pt_cmpR (op_neD hr.units) (pe_h (E := ED E) h__law_asked hr (paW (takes_of rfl rfl rfl rfl)) (pa_cons (pv 1) (pa_cons (pv 6) (pa_cons (pv 4) pa_nil)))) (pe_tup (pa_cons pe_str (pa_cons (pv 6) pa_nil))) (nomark _))))) (pss_one (ps_ret pe_bl)) pss_nil)
      (pss_cons (ps_set (i := 7) sc__law_refusals.nd rfl (Or.inl rfl) (pe_h (E := ED E) h__law_asked hr (paW (takes_of rfl rfl rfl rfl)) (pa_cons (pv 1) (pa_cons (pv 3) (pa_cons (pv 4) pa_nil)))))
      (pss_cons (ps_if (PW.pt (pw_and (pt_cmpR (op_eqD hr.units) (pv 4) pe_int (nomark _)) (pw_and1 (pt_not (pt_val (pe_callB call_isi rfl T.n_isinstance (by decide +kernel) (pa_cons (pv 4) (pa_cons (pe_bltn (v := .ty "bool") rfl T.n_bool (by decide +kernel) rfl) pa_nil)))))))) (pss_one (ps_ret (pe_cmpR (op_eqD hr.units) (pv 7) (pe_tup (pa_cons pe_str (pa_cons pe_non pa_nil))) (nomark _)))) pss_nil)
      (pss_one (ps_ret (pe_and (pe_cmpR (op_eqD hr.units) (pv 7) (pe_tup (pa_cons pe_str (pa_cons (pv 4) pa_nil))) (nomark _)) (pe_one (pe_cmpR (op_eqD hr.units) (pe_callB call_isi rfl T.n_isinstance (by decide +kernel) (pa_cons (pe_ix ix_seq (pv 7) pe_int (fun _ _ => rfl)) (pa_cons (pe_bltn (v := .ty "bool") rfl T.n_bool (by decide +kernel) rfl) pa_nil))) (pe_callB call_isi rfl T.n_isinstance (by decide +kernel) (pa_cons (pv 4) (pa_cons (pe_bltn (v := .ty "bool") rfl T.n_bool (by decide +kernel) rfl) pa_nil))) (nomark _))))))))))))), ?_⟩
    try simp only [cxOf]
    obtain ⟨st, sc, v, ws, pc, c, T0, R0, B0, T1, R1, B1, rfl, hst, hf, shp, sb, hc, wc, y, q⟩ := h
    have l1 := (low_is (t := T0) (r := R0) (b := B0) (by have := sb.p; omega)).pos
    have l2 := (low_is (t := T1) (r := R1) (b := B1) (by have := sb.p'; omega)).pos
    have lo : ∀ c, hasB (lowT T0 R0 B0) (lowR T0 R0 B0) (lowB T0 R0 B0) (lowT T1 R1 B1) (lowR T1 R1 B1) (lowB T1 R1 B1) c = hasB T0 R0 B0 T1 R1 B1 c := has_low sb.p sb.p'
    walk_at "W"
    refine k_lst rfl fun l H1 hl s1 e1 => ?_
    walk_at "W"
    have hst1 := hst.same s1
    refine k_draw' hst1 (by decide) (by decide) fun kd H2 k0 k1 x2 hst2 => ?_
    have nl := hst.new hl
    have e2 := x2 _ _ nl.1 e1
    have K2 : Kps H H2 := (Kps.same s1).trans (Kps.st hst1 x2)
    have X2 : SameX st H H2 := (Same.x s1).trans x2
    have hk : kd = 0 ∨ kd = 1 ∨ kd = 2 ∨ kd = 3 ∨ kd = 4 ∨ kd = 5 := by omega
    obtain ⟨s, d, hs, th, dp, ly, de, hb, kk⟩ : ∃ (s : V) (d : PyData), atI [V.int 9, .int (-1), .bl true, .non, .str "1", .int 1] kd = some s ∧ (∀ HH, ThI Z HH s) ∧ (∀ HH, Dp Z.K HH s d) ∧ d.canLay0 = true ∧ d.depth = 0 ∧ (PyData.eqv d (.int 1) = false ∧ isB s = false ∧ (isI s = false ∨ ∃ i, s = .int i ∧ ¬ (0 ≤ i ∧ i ≤ 8)) ∨ s = .bl true ∨ s = .int 1) ∧ (∀ HH, Plain HH s) := by
      rcases hk with rfl | rfl | rfl | rfl | rfl | rfl
      · exact ⟨.int 9, .int 9, rfl, fun _ => (Plain.int _).thI, fun _ => .int _, rfl, rfl, .inl ⟨rfl, rfl, .inr ⟨9, rfl, by omega⟩⟩, fun _ => .int _⟩
      · exact ⟨.int (-1), .int (-1), rfl, fun _ => (Plain.int _).thI, fun _ => .int _, rfl, rfl, .inl ⟨rfl, rfl, .inr ⟨-1, rfl, by omega⟩⟩, fun _ => .int _⟩
      · exact ⟨.bl true, .bool true, rfl, fun _ => (Plain.bl _).thI, fun _ => .bl _, rfl, rfl, .inr (.inl rfl), fun _ => .bl _⟩
      · exact ⟨.non, .none, rfl, fun _ => Plain.non.thI, fun _ => .non, rfl, rfl, .inl ⟨rfl, rfl, .inl rfl⟩, fun _ => .non⟩
      · exact ⟨.str "1", .str "1", rfl, fun _ => (Plain.str _).thI, fun _ => .str _, by decide +kernel, rfl, .inl ⟨rfl, rfl, .inl rfl⟩, fun _ => .str _⟩
      · exact ⟨.int 1, .int 1, rfl, fun _ => (Plain.int _).thI, fun _ => .int _, rfl, rfl, .inr (.inr rfl), fun _ => .int _⟩
    refine w_ixL e2 hs ?_
    walk_at "W"
    refine ⟨st, sc, pc, c, rfl, hst2, K2.tup hc, fun bad db H3 x3 hst3 od _ => ?_⟩
    have K3 := K2.trans (Kps.st hst2 x3)
    walk_at "W"
    refine ⟨v, bad, s, _, _, _, _, _, _, rfl, hf.kps K3, l1, l2, .inl ⟨od.bad, fun u4 H4 s4 e4 => ?_⟩⟩
    walk_at "W"
    refine k_tup rfl fun u5 H5 hu5 s5 e5 => ?_
    refine k_neSame (s5 _ _ e4) e5 (by decide +kernel) (dp_same (s4.trans s5) od.dp) od.lay (Nat.le_trans od.dep (by decide)) ?_
    have S5 := s4.trans s5
    have K5 := K3.trans (Kps.same S5)
    have hst5 := hst3.same S5
    walk_at "W"
    refine ⟨st, sc, pc, c, rfl, hst5, K5.tup hc, fun i2 y2 po H6 _ _ hy0 hy1 x6 hst6 eo => ?_⟩
    have wo : C4.bw 85 (c.set1 i2 y2) := C4.set1_bw wc (by decide) hy0 hy1
    have K6 := K5.trans (Kps.st hst5 x6)
    have X6 : SameX st H H6 := X2.trans (x3.trans ((Same.x S5).trans x6))
    walk_at "W"
    refine w_cut (fun σ' H' => σ' = [some (.ref st), some v, some (.ref ws), some (.ref pc), some s, some bad, some (.ref po), none] ∧ Same H6 H') ?_ ?_
    · walk_at "W"
      refine k_lhas (shp.kps K6) sb eo (wo.mono (by decide)) fun H7 s7 => ?_
      cases ho : hasB T0 R0 B0 T1 R1 B1 (c.set1 i2 y2)
      · walk_at "W"
        have K7 := K6.trans (Kps.same s7)
        refine ⟨v, _, s, _, _, _, _, _, _, rfl, hf.kps K7, l1, l2, .inr ⟨c.set1 i2 y2, ⟨po, rfl, s7 _ _ eo⟩, wo.mono (by decide), .inl ⟨by rw [lo]; exact ho, fun u8 H8 s8 e8 => ?_⟩⟩⟩
        walk_at "W"
        refine k_tup rfl fun u9 H9 hu9 s9 e9 => ?_
        have S9 := s7.trans (s8.trans s9)
        refine k_neSame (s9 _ _ e8) e9 (by decide +kernel) (.tup (SqT.of (S9 _ _ eo)) (.cons (.int _) (.cons (.int _) (.cons (.int _) (.cons (.int _) .nil))))) rfl (Nat.le_of_ble_eq_true rfl) ?_
        walk_at "W"
        exact ⟨rfl, S9⟩
      · walk_at "W"
        exact ⟨rfl, s7⟩
    rintro σ' H7 ⟨rfl, s7⟩
    have K7 := K6.trans (Kps.same s7)
    have X7 : SameX st H H7 := X6.trans (Same.x s7)
    have hst7 := hst6.same s7
    have shs : SeqAt.shaped d = true := by
      unfold SeqAt.shaped
      rw [ly, de]
      decide
    walk_at "W"
    refine ⟨v, _, s, _, _, _, _, _, _, rfl, hf.kps K7, l1, l2, .inr ⟨c, ⟨pc, rfl, K7.tup hc⟩, wc.mono (by decide), .inr ⟨by rw [lo]; exact y, th _, ?_⟩⟩⟩
    have last : ∀ u8 H8, Same H7 H8 → H8 u8 = some (.tup [.str "size", s]) → ∀ b, (∃ ty, TyX Z.K H8 s ty ∧ PySem.W.kitOne Z.K ty (.type "bool") = some b) → ∀ (N : VK), (∀ H', SameX st H H' → StA H' st sc → N (.bl true) H') → ∀ u9 H9, Same H8 H9 → H9 u9 = some (.tup [.str "size", s]) → True := fun _ _ _ _ _ _ _ _ _ _ _ _ => trivial
    rcases hb with ⟨ne1, nb, bads⟩ | rfl | rfl
    · refine .inl ⟨bads, fun u8 H8 s8 e8 => ?_⟩
      walk_at "W"
      refine ⟨d, .int 1, dp _, .int 1, shs, rfl, ?_⟩
      rw [ne1]
      walk_at "W"
      refine k_tup rfl fun u9 H9 hu9 s9 e9 => ?_
      refine k_eqSame (s9 _ _ e8) e9 (by decide +kernel) (dp _) ly (by omega) ?_
      walk_at "W"
      obtain ⟨ty, hty, _, kb, _⟩ := (kk H9).ty (K := Z.K)
      refine w_ixT (s9 _ _ e8) rfl ?_
      walk_at "W"
      refine w_isi hty kb ?_
      walk_at "W"
      refine w_isi hty kb ?_
      refine ⟨.bool _, .bool _, .bl _, .bl _, rfl, rfl, ?_⟩
      rw [SeqAt.eqv_refl _ rfl]
      exact q H9 (X7.trans (Same.x (s8.trans s9))) ((hst7.same s8).same s9)
    · refine .inl ⟨.inl rfl, fun u8 H8 s8 e8 => ?_⟩
      walk_at "W"
      refine ⟨d, .int 1, dp _, .int 1, shs, rfl, ?_⟩
      obtain ⟨ty, hty, _, kb, _⟩ := (kk H8).ty (K := Z.K)
      cases eqv1 : PyData.eqv d (.int 1)
      all_goals
        walk_at "W"
        try refine w_isi hty kb ?_
        walk_at "W"
        refine k_tup rfl fun u9 H9 hu9 s9 e9 => ?_
        refine k_eqSame (s9 _ _ e8) e9 (by decide +kernel) (dp _) ly (by omega) ?_
        walk_at "W"
        obtain ⟨ty, hty, _, kb, _⟩ := (kk H9).ty (K := Z.K)
        refine w_ixT (s9 _ _ e8) rfl ?_
        walk_at "W"
        refine w_isi hty kb ?_
        walk_at "W"
        refine w_isi hty kb ?_
        refine ⟨.bool _, .bool _, .bl _, .bl _, rfl, rfl, ?_⟩
        rw [SeqAt.eqv_refl _ rfl]
        exact q H9 (X7.trans (Same.x (s8.trans s9))) ((hst7.same s8).same s9)
    · refine .inr ⟨1, by omega, rfl, fun u8 H8 s8 e8 => ?_⟩
      walk_at "W"
      refine ⟨.int 1, .int 1, .int 1, .int 1, rfl, rfl, ?_⟩
      rw [SeqAt.eqv_refl _ rfl]
      obtain ⟨ty, hty, _, kb, _⟩ := (kk H8).ty (K := Z.K)
      walk_at "W"
      refine w_isi hty kb ?_
      walk_at "W"
      refine k_tup rfl fun u9 H9 hu9 s9 e9 => ?_
      refine k_eqSame (s9 _ _ e8) e9 (by decide +kernel) .non rfl (by decide) ?_
      exact q H9 (X7.trans (Same.x (s8.trans s9))) ((hst7.same s8).same s9)
abbrev s_law : Stmt := top 71
theorem sc_law : FnScope ["script", "state", "spoil", "steps", "corner", "shift", "floor", "rings", "due", "ring", "one"] ["script"] (defScope s_law) := ⟨rfl, rfl, rfl, by decide +kernel, rfl, by decide +kernel, by decide +kernel⟩

def sp_law (Z : Zs) : Sp := fun vs H Q E =>
  ∃ (a : Addr) (ns : List Int), vs = [.ref a] ∧ SqL Z.K H a (ns.map V.int) ∧ ∀ H', Q (.bl true) H'
theorem ok_law (T : Txt Z mg) (h__law_is_corner : Has P w Z.K mg base "_law_is_corner" 1 ["thing"] (sp__law_is_corner Z)) (h__law_rings : Has P w Z.K mg base "_law_rings" 6 ["shift", "corner", "steps"] (sp__law_rings Z)) (h__law_refusals : Has P w Z.K mg base "_law_refusals" 7 ["state", "floor", "shift", "corner"] (sp__law_refusals Z)) (h__law_floor : Has P w Z.K mg base "_law_floor" 11 ["shift"] (sp__law_floor Z)) (h__law_shift : Has P w Z.K mg base "_law_shift" 2 ["corner", "spot"] (sp__law_shift Z)) (h__law_spot : Has P w Z.K mg base "_law_spot" 4 ["state"] (sp__law_spot Z)) (h__law_corner : Has P w Z.K mg base "_law_corner" 4 ["state"] (sp__law_corner Z)) (h__law_draw : Has P w Z.K mg base "_law_draw" 2 ["state", "many"] (sp__law_draw Z)) (h__law_start : Has P w Z.K mg base "_law_start" 1 ["script"] (sp__law_start Z)) (h_Floor_around : HasM P w Z.K mg base Z.c_Floor "around" 5 ["self", "corner", "steps"] (sp_Floor_around Z)) {f : Addr} {fd : FuncData} (D : Fun Z.K "law" "law" s_law f fd) : FnOk P w Z.K mg base (L2.CX P w) 12 f fd ["script"] (sp_law Z) := by
  refine D.okX sc_law (fun vs H Q E h => ?_) (fun cdv A outer s H vs Q E hr h => ?_)
  · obtain ⟨a, ns, rfl, _⟩ := h
    rfl
  · refine ⟨_, (pss_cons (ps_set (i := 1) sc_law.nd rfl (Or.inl rfl) (pe_h (E := ED E) h__law_start hr (paW (takes_of rfl rfl rfl rfl)) (pa_cons (pv 0) pa_nil)))
      (pss_cons (ps_set (i := 2) sc_law.nd rfl (Or.inl rfl) (pe_h (E := ED E) h__law_draw hr (paW (takes_of rfl rfl rfl rfl)) (pa_cons (pv 1) (pa_cons pe_int pa_nil))))
      (pss_cons (ps_set (i := 3) sc_law.nd rfl (Or.inl rfl) (pe_h (E := ED E) h__law_draw hr (paW (takes_of rfl rfl rfl rfl)) (pa_cons (pv 1) (pa_cons pe_int pa_nil))))
      (C8.pss_cut (ps_if (pt_cmpR op_eq (pe_h (E := ED E) h__law_draw hr (paW (takes_of rfl rfl rfl rfl)) (pa_cons (pv 1) (pa_cons pe_int pa_nil))) pe_int (nomark _)) (pss_one (ps_set (i := 3) sc_law.nd rfl (Or.inl rfl) (pe_op op_add pe_int (pe_h (E := ED E) h__law_draw hr (paW (takes_of rfl rfl rfl rfl)) (pa_cons (pv 1) (pa_cons pe_int pa_nil)))))) pss_nil)
      (pss_cons (ps_set (i := 4) sc_law.nd rfl (Or.inl rfl) (pe_h (E := ED E) h__law_corner hr (paW (takes_of rfl rfl rfl rfl)) (pa_cons (pv 1) pa_nil)))
      (pss_cons (ps_set (i := 5) sc_law.nd rfl (Or.inl rfl) (pe_h (E := ED E) h__law_shift hr (paW (takes_of rfl rfl rfl rfl)) (pa_cons (pv 4) (pa_cons (pe_h (E := ED E) h__law_spot hr (paW (takes_of rfl rfl rfl rfl)) (pa_cons (pv 1) pa_nil)) pa_nil))))
      (pss_cons (ps_set (i := 6) sc_law.nd rfl (Or.inl rfl) (pe_h (E := ED E) h__law_floor hr (paW (takes_of rfl rfl rfl rfl)) (pa_cons (pv 5) pa_nil)))
      (C8.pss_cut (ps_if (PW.pt (pw_and (pt_cmpR op_eq (pv 2) pe_int (nomark _)) (pw_and1 (pt_not (pt_val (pe_h (E := ED E) h__law_refusals hr (paW (takes_of rfl rfl rfl rfl)) (pa_cons (pv 1) (pa_cons (pv 6) (pa_cons (pv 5) (pa_cons (pv 4) pa_nil)))))))))) (pss_one (ps_ret pe_bl)) pss_nil)
      (pss_cons (ps_set (i := 7) sc_law.nd rfl (Or.inl rfl) (pe_hm (E := ED E) h_Floor_around T.c_Floor hr (paW (takes_of rfl rfl rfl rfl)) (pv 6) (pa_cons (pv 4) (pa_cons (pv 3) pa_nil))))
      (pss_cons (ps_set (i := 8) sc_law.nd rfl (Or.inl rfl) (pe_h (E := ED E) h__law_rings hr (paW (takes_of rfl rfl rfl rfl)) (pa_cons (pv 5) (pa_cons (pv 4) (pa_cons (pv 3) pa_nil)))))
      (pss_cons (ps_if (PW.pt (pw_or (pt_not (pt_val (pe_callB call_isi rfl T.n_isinstance (by decide +kernel) (pa_cons (pv 7) (pa_cons (pe_bltn (v := .ty "list") rfl T.n_list (by decide +kernel) rfl) pa_nil))))) (pw_or1 (pt_cmpR (op_neD hr.units) (pv 7) (pv 8) (nomark _))))) (pss_one (ps_ret pe_bl)) pss_nil)
      (pss_cons (ps_for (passes_of rfl) rfl (pi_list (pv 7)) (pg_name (i := 9) sc_law.nd rfl (Or.inl rfl)) (pss_cons (ps_if (pt_not (pt_val (pe_callB call_isi rfl T.n_isinstance (by decide +kernel) (pa_cons (pv 9) (pa_cons (pe_bltn (v := .ty "list") rfl T.n_list (by decide +kernel) rfl) pa_nil))))) (pss_one (ps_ret pe_bl)) pss_nil)
      (pss_one (ps_for (passes_of rfl) rfl (pi_list (pv 9)) (pg_name (i := 10) sc_law.nd rfl (Or.inl rfl)) (pss_one (ps_if (pt_not (pt_val (pe_h (E := ED E) h__law_is_corner hr (paW (takes_of rfl rfl rfl rfl)) (pa_cons (pv 10) pa_nil)))) (pss_one (ps_ret pe_bl)) pss_nil))))))
      (pss_cons (ps_expr (pe_bm PySem.F.plainAttrs_list PySem.F.slot_list_append PySem.F.type_list_append mt_append (pe_ix ix_seq (pv 7) (pe_un un_neg pe_int) (fun _ _ => rfl)) (pa_cons (pv 4) pa_nil)))
      (pss_one (ps_ret (pe_cmpR (op_eqD hr.units) (pe_hm (E := ED E) h_Floor_around T.c_Floor hr (paW (takes_of rfl rfl rfl rfl)) (pv 6) (pa_cons (pv 4) (pa_cons (pv 3) pa_nil))) (pv 8) (nomark _))))))))))))))))), ?_⟩
    try simp only [cxOf]
    obtain ⟨a, ns, rfl, hs, q⟩ := h
    walk_at "W"
    refine ⟨a, ns, rfl, hs, fun st sc H1 hst s1 hst1 => ?_⟩
    walk_at "W"
    refine k_draw' hst1 (by decide) (by decide) fun sp H2 sp0 sp1 x2 hst2 => ?_
    walk_at "W"
    refine k_draw' hst2 (by decide) (by decide) fun sn H3 sn0 sn1 x3 hst3 => ?_
    walk_at "W"
    refine w_cut (fun σ' H' => ∃ n : Nat, n ≤ 8 ∧ σ' = [some (.ref a), some (.ref st), some (.int sp), some (.int n), none, none, none, none, none, none, none] ∧ StA H' st sc) ?_ ?_
    · walk_at "W"
      refine k_draw' hst3 (by decide) (by decide) fun z H4 z0 z1 x4 hst4 => ?_
      walk_at "W"
      refine w_ite (fun _ => ?_) (fun _ => ?_)
      · walk_at "W"
        refine k_draw' hst4 (by decide) (by decide) fun m H5 m0 m1 x5 hst5 => ?_
        walk_at "W"
        exact ⟨(4 + m).toNat, by omega, by rw [show (((4 + m).toNat : Nat) : Int) = 4 + m by omega]; rfl, hst5⟩
      · walk_at "W"
        exact ⟨sn.toNat, by omega, by rw [show ((sn.toNat : Nat) : Int) = sn by omega]; rfl, hst4⟩
    clear x3 hst3 sn0 sn1
    rintro σ' H3 ⟨n, hn, rfl, hst3⟩
    walk_at "W"
    refine ⟨st, sc, rfl, hst3, fun pc c H4 x4 hst4 hc wc => ?_⟩
    have wc1 := c4_84 wc
    walk_at "W"
    refine ⟨st, sc, rfl, hst4, fun u px py t r b t' r' b' H5 x5 hst5 eu h1 h2 pb pb' w1 w2 w3 w4 w5 w6 ins nb => ?_⟩
    have hc := (Kps.st hst4 x5).tup hc
    have u63 : ∀ {x : Int}, Bw 62 x → Bw 63 x := fun h => h.mono (by decide)
    walk_at "W"
    refine ⟨pc, c, u, px, py, t, r, b, t', r', b', rfl, hc, c4_200 wc1, eu, h1, h2, u63 w3, u63 w4, w1, u63 w5, u63 w6, w2, fun ws q1 q2 H6 s6 ew g1 g2 => ?_⟩
    have sb := sh_of wc1 pb pb' w1 w2 w3 w4 w5 w6 nb
    have self := has_self (t := t) (r := r) (b := b) (t' := t') (r' := r') (b' := b') c ins
    have hst6 := hst5.same s6
    have hc := s6 _ _ hc
    have shp : ShAt H6 ws _ _ _ _ _ _ := ⟨q1, q2, ew, g1, g2⟩
    generalize minus.t (2 * (conj c).a) ((conj c).b - (conj c).d) 2 t r b = T0 at *
    generalize minus.r (2 * (conj c).a) ((conj c).b - (conj c).d) 2 t r b = R0 at *
    generalize minus.b (2 * (conj c).a) ((conj c).b - (conj c).d) 2 t r b = B0 at *
    generalize minus.t (2 * (conj c).c) ((conj c).b + (conj c).d) 2 t' r' b' = T1 at *
    generalize minus.r (2 * (conj c).c) ((conj c).b + (conj c).d) 2 t' r' b' = R1 at *
    generalize minus.b (2 * (conj c).c) ((conj c).b + (conj c).d) 2 t' r' b' = B1 at *
    walk_at "W"
    refine ⟨ws, T0, R0, B0, T1, R1, B1, rfl, shp, sb, fun vf H10 S10 hf => ?_⟩
    have hst10 := hst6.same S10
    have hc := S10 _ _ hc
    have shp := shp.kps (Kps.same S10)
    have l1 := (low_is (t := T0) (r := R0) (b := B0) (by have := sb.p; omega)).pos
    have l2 := (low_is (t := T1) (r := R1) (b := B1) (by have := sb.p'; omega)).pos
    have lo : hasB (lowT T0 R0 B0) (lowR T0 R0 B0) (lowB T0 R0 B0) (lowT T1 R1 B1) (lowR T1 R1 B1) (lowB T1 R1 B1) = hasB T0 R0 B0 T1 R1 B1 := funext (has_low sb.p sb.p')
    have hf0 := hf
    obtain ⟨af, dxf, uu, gg, vx, vy, Bf, X1, X2, Y1, Y2, rfl, ef, -⟩ := hf0
    have meth : ∀ {m : Str} {H' : Hp} {N : Hp → Prop}, Kps H10 H' → (m == ("shift" : Str)) = false → (m == ("_gauge" : Str)) = false → N H' → MethP Z.c_Floor m (.ref af) H' N := fun {m H' N} k n1 n2 hn => k_meth (k _ _ (by intro xs z; cases z) ef) (ff_none n1 n2) hn
    walk_at "W"
    refine w_cut (fun σ' H' => σ' = [some (.ref a), some (.ref st), some (.int sp), some (.int n), some (.ref pc), some (.ref ws), some (.ref af), none, none, none, none] ∧ SameX st H10 H' ∧ StA H' st sc) ?_ ?_
    · walk_at "W"
      refine w_ite (fun _ => ?_) (fun _ => ?_)
      · walk_at "W"
        refine ⟨st, sc, _, ws, pc, c, T0, R0, B0, T1, R1, B1, rfl, hst10, hf, shp, sb, hc, wc, self, fun H11 x11 hst11 => ?_⟩
        walk_at "W"
        exact ⟨rfl, x11, hst11⟩
      · walk_at "W"
        exact ⟨rfl, fun _ _ _ e => e, hst10⟩
    rintro σ' H14 ⟨rfl, x14, hst14⟩
    have K14 := Kps.st hst10 x14
    have hc := K14.tup hc
    have shp := shp.kps K14
    have hf14 := hf.kps K14
    walk_at "W"
    refine meth K14 (by decide +kernel) (by decide +kernel) ?_
    walk_at "W"
    refine ⟨_, _, _, _, _, _, _, _, _, rfl, hf14, l1, l2, .inr ⟨c, ⟨pc, rfl, hc⟩, wc1.mono (by decide), .inr ⟨by rw [lo]; exact self, (Plain.int _).thI, .inr ⟨n, hn, rfl, fun lr ls H15 hlr s15 er rs => ?_⟩⟩⟩⟩
    rw [lo] at rs
    walk_at "W"
    refine ⟨ws, pc, c, n, T0, R0, B0, T1, R1, B1, rfl, hn, shp.kps (Kps.same s15), sb, s15 _ _ hc, wc.mono (by decide), self, fun ld ld' H16 hld s16 ed rd => ?_⟩
    have er := s16 _ _ er
    have rs15 := rs
    have rs := rs.same s16
    have kl : ∀ {HH : Hp} {l : Addr} {xs : List V}, HH l = some (.lst xs) → TyX Z.K HH (.ref l) (.type "list") := fun e => .base (.lst e)
    have kt : PySem.W.kitOne Z.K (.type "list") (.type "list") = some true := kit_ty (by decide +kernel)
    walk_at "W"
    refine w_isi (kl er) kt ?_
    walk_at "W"
    refine ⟨_, _, rings_dp er rs, rings_dp ed rd, rings_shaped _, rings_shaped _, ?_⟩
    rw [SeqAt.eqv_refl _ (SeqAt.canLay_of_shaped (rings_shaped _))]
    walk_at "W"
    refine k_forL (xs := ls) (fun i σ' H' => ∃ x9 x10, σ' = [some (.ref a), some (.ref st), some (.int sp), some (.int n), some (.ref pc), some (.ref ws), some (.ref af), some (.ref lr), some (.ref ld), x9, x10] ∧ H' = H16) (SqL.of er) ⟨none, none, rfl, rfl⟩ (fun i σ' H' h => by obtain ⟨_, _, _, rfl⟩ := h; exact SqL.of er) ?_ ?_
    · rintro i x σ' H17 hx ⟨x9, x10, rfl, rfl⟩
      obtain ⟨l, wl, r, rfl, nl, el, cl, hr⟩ := rs.get hx
      walk_at "W"
      refine w_isi (kl el) kt ?_
      walk_at "W"
      refine k_forL (xs := wl) (fun j σ' H' => ∃ x10, σ' = [some (.ref a), some (.ref st), some (.int sp), some (.int n), some (.ref pc), some (.ref ws), some (.ref af), some (.ref lr), some (.ref ld), some (.ref l), x10] ∧ H' = H17) (SqL.of el) ⟨x10, rfl, rfl⟩ (fun i σ' H' h => by obtain ⟨_, _, rfl⟩ := h; exact SqL.of el) ?_ ?_
      · rintro j x σ' H18 hx ⟨x10, rfl, rfl⟩
        obtain ⟨o, ho, co⟩ := cl.get hx
        walk_at "W"
        refine ⟨x, o, rfl, co, ?_⟩
        walk_at "W"
        exact ⟨_, rfl, rfl⟩
      · rintro σ' H18 ⟨x10, rfl, rfl⟩
        exact ⟨_, _, rfl, rfl⟩
    rintro σ' H17 ⟨x9, x10, rfl, rfl⟩
    have ok := rings_ok self n
    have hlen : ls.length = n + 1 := by rw [rs.len, ok.len]
    obtain ⟨lx, hx⟩ : ∃ lx, ls[n]? = some lx := ⟨_, List.getElem?_eq_getElem (by omega)⟩
    obtain ⟨l, wl, r, rfl, nl, el15, cl, hr⟩ := rs15.get hx
    have el := s16 _ _ el15
    have hla : atI ls (-1) = some (.ref l) := by
      have : ls = ls.take n ++ [.ref l] := by
        have h := (List.take_of_length_le (l := ls) (i := n + 1) (by omega)).symm
        rw [List.take_add_one, hx] at h
        exact h
      rw [this]
      exact atI_last _ _
    walk_at "W"
    refine w_ixL er hla ?_
    walk_at "W"
    refine k_bm el ?_
    walk_at "W"
    refine w_app el (few_lt (by rw [cl.len]; exact ok.few r hr hn)) fun H18 x18 k18 e18 => ?_
    have hf18 : FloorAt Z H18 (.ref af) (lowT T0 R0 B0) (lowR T0 R0 B0) (lowB T0 R0 B0) (lowT T1 R1 B1) (lowR T1 R1 B1) (lowB T1 R1 B1) := (hf14.same (s15.trans s16)).kps (Kps.sx el x18)
    walk_at "W"
    refine meth (K14.trans ((Kps.same (s15.trans s16)).trans (Kps.sx el x18))) (by decide +kernel) (by decide +kernel) ?_
    walk_at "W"
    refine ⟨_, _, _, _, _, _, _, _, _, rfl, hf18, l1, l2, .inr ⟨c, ⟨pc, rfl, (Kps.sx el x18).tup ((Kps.same (s15.trans s16)).tup hc)⟩, wc1.mono (by decide), .inr ⟨by rw [lo]; exact self, (Plain.int _).thI, .inr ⟨n, hn, rfl, fun lr2 ls2 H19 hlr2 s19 er2 rs2 => ?_⟩⟩⟩⟩
    rw [lo] at rs2
    have ne15 : ∀ {x : Addr}, H15 x = none → x ≠ l := fun h z => by rw [z, el15] at h; cases h
    have ed18 := x18 _ _ (ne15 hld) ed
    have rd18 := rd.keep k18 fun x ws nx e => x18 _ _ (ne15 nx.2) e
    walk_at "W"
    refine ⟨_, _, rings_dp er2 rs2, rings_dp (s19 _ _ ed18) (rd18.same s19), rings_shaped _, rings_shaped _, ?_⟩
    rw [SeqAt.eqv_refl _ (SeqAt.canLay_of_shaped (rings_shaped _))]
    exact q H19
def spTop (K : PySem.W.Frag) : Sp := fun vs H Q E => ∃ (a : Addr) (ns : List Int), vs = [.ref a] ∧ SqL K H a (ns.map V.int) ∧ ∀ H', Q (.bl true) H'
theorem all_mk {P : Program} {w : World} {K : PySem.W.Frag} {h : Heap} {mg : Str → Option Value} {fa : Addr} (X : K.In h) (G : h.Ns mainGlobals mg) (hfa : mg "law" = some (.ref fa))
    {c_FloorError c_BadNumber c_BadPoint c_BadCorner c_Barred c_NoCorner c_BadSize c_Root c_Floor : Addr}
    {gAX : Addr}
{gSX : Addr}
{gMX : Addr}
{nmBadNumber qBadNumber : Str} {NBadNumber : Addr} {bsBadNumber : List Value} {snBadNumber : List Str} {subBadNumber : List Value} {abBadNumber : Bool} {colBadNumber : Option Bool} {ddBadNumber : Option Addr} {m0BadNumber m1BadNumber m2BadNumber m3BadNumber m5BadNumber : Option Value}
{nmBadPoint qBadPoint : Str} {NBadPoint : Addr} {bsBadPoint : List Value} {snBadPoint : List Str} {subBadPoint : List Value} {abBadPoint : Bool} {colBadPoint : Option Bool} {ddBadPoint : Option Addr} {m0BadPoint m1BadPoint m2BadPoint m3BadPoint m5BadPoint : Option Value}
{nmBadCorner qBadCorner : Str} {NBadCorner : Addr} {bsBadCorner : List Value} {snBadCorner : List Str} {subBadCorner : List Value} {abBadCorner : Bool} {colBadCorner : Option Bool} {ddBadCorner : Option Addr} {m0BadCorner m1BadCorner m2BadCorner m3BadCorner m5BadCorner : Option Value}
{nmBarred qBarred : Str} {NBarred : Addr} {bsBarred : List Value} {snBarred : List Str} {subBarred : List Value} {abBarred : Bool} {colBarred : Option Bool} {ddBarred : Option Addr} {m0Barred m1Barred m2Barred m3Barred m5Barred : Option Value}
{nmNoCorner qNoCorner : Str} {NNoCorner : Addr} {bsNoCorner : List Value} {snNoCorner : List Str} {subNoCorner : List Value} {abNoCorner : Bool} {colNoCorner : Option Bool} {ddNoCorner : Option Addr} {m0NoCorner m1NoCorner m2NoCorner m3NoCorner m5NoCorner : Option Value}
{nmBadSize qBadSize : Str} {NBadSize : Addr} {bsBadSize : List Value} {snBadSize : List Str} {subBadSize : List Value} {abBadSize : Bool} {colBadSize : Option Bool} {ddBadSize : Option Addr} {m0BadSize m1BadSize m2BadSize m3BadSize m5BadSize : Option Value}
    {f_is_integral : Addr} {od_is_integral an_is_integral : Option Addr} {sl_is_integral : Array (Option Value)} {oc_is_integral kV_is_integral dc_is_integral pm_is_integral cd_is_integral ct_is_integral : Value}
    {f_BadPoint_init : Addr} {od_BadPoint_init an_BadPoint_init : Option Addr} {sl_BadPoint_init : Array (Option Value)} {oc_BadPoint_init kV_BadPoint_init dc_BadPoint_init pm_BadPoint_init cd_BadPoint_init ct_BadPoint_init : Value}
    {f_BadCorner_init : Addr} {od_BadCorner_init an_BadCorner_init : Option Addr} {sl_BadCorner_init : Array (Option Value)} {oc_BadCorner_init kV_BadCorner_init dc_BadCorner_init pm_BadCorner_init cd_BadCorner_init ct_BadCorner_init : Value}
    {f_Barred_init : Addr} {od_Barred_init an_Barred_init : Option Addr} {sl_Barred_init : Array (Option Value)} {oc_Barred_init kV_Barred_init dc_Barred_init pm_Barred_init cd_Barred_init ct_Barred_init : Value}
    {f_NoCorner_init : Addr} {od_NoCorner_init an_NoCorner_init : Option Addr} {sl_NoCorner_init : Array (Option Value)} {oc_NoCorner_init kV_NoCorner_init dc_NoCorner_init pm_NoCorner_init cd_NoCorner_init ct_NoCorner_init : Value}
    {f_BadSize_init : Addr} {od_BadSize_init an_BadSize_init : Option Addr} {sl_BadSize_init : Array (Option Value)} {oc_BadSize_init kV_BadSize_init dc_BadSize_init pm_BadSize_init cd_BadSize_init ct_BadSize_init : Value}
    {f_BadNumber_init : Addr} {od_BadNumber_init an_BadNumber_init : Option Addr} {sl_BadNumber_init : Array (Option Value)} {oc_BadNumber_init kV_BadNumber_init dc_BadNumber_init pm_BadNumber_init cd_BadNumber_init ct_BadNumber_init : Value}
    {f_Root_init : Addr} {od_Root_init an_Root_init : Option Addr} {sl_Root_init : Array (Option Value)} {oc_Root_init kV_Root_init dc_Root_init pm_Root_init cd_Root_init ct_Root_init : Value}
    {f_Root_eq : Addr} {od_Root_eq an_Root_eq : Option Addr} {sl_Root_eq : Array (Option Value)} {oc_Root_eq kV_Root_eq dc_Root_eq pm_Root_eq cd_Root_eq ct_Root_eq : Value}
    {f_Root_neg : Addr} {od_Root_neg an_Root_neg : Option Addr} {sl_Root_neg : Array (Option Value)} {oc_Root_neg kV_Root_neg dc_Root_neg pm_Root_neg cd_Root_neg ct_Root_neg : Value}
    {f_is_number : Addr} {od_is_number an_is_number : Option Addr} {sl_is_number : Array (Option Value)} {oc_is_number kV_is_number dc_is_number pm_is_number cd_is_number ct_is_number : Value}
    {f_as_root : Addr} {od_as_root an_as_root : Option Addr} {sl_as_root : Array (Option Value)} {oc_as_root kV_as_root dc_as_root pm_as_root cd_as_root ct_as_root : Value}
    {f_surd_sign : Addr} {od_surd_sign an_surd_sign : Option Addr} {sl_surd_sign : Array (Option Value)} {oc_surd_sign kV_surd_sign dc_surd_sign pm_surd_sign cd_surd_sign ct_surd_sign : Value}
    {f_Root_add : Addr} {od_Root_add an_Root_add : Option Addr} {sl_Root_add : Array (Option Value)} {oc_Root_add kV_Root_add dc_Root_add pm_Root_add cd_Root_add ct_Root_add : Value}
    {f_Root_sub : Addr} {od_Root_sub an_Root_sub : Option Addr} {sl_Root_sub : Array (Option Value)} {oc_Root_sub kV_Root_sub dc_Root_sub pm_Root_sub cd_Root_sub ct_Root_sub : Value}
    {f_Root_mul : Addr} {od_Root_mul an_Root_mul : Option Addr} {sl_Root_mul : Array (Option Value)} {oc_Root_mul kV_Root_mul dc_Root_mul pm_Root_mul cd_Root_mul ct_Root_mul : Value}
    {f_Root_radd : Addr} {od_Root_radd an_Root_radd : Option Addr} {sl_Root_radd : Array (Option Value)} {oc_Root_radd kV_Root_radd dc_Root_radd pm_Root_radd cd_Root_radd ct_Root_radd : Value}
    {f_Root_rmul : Addr} {od_Root_rmul an_Root_rmul : Option Addr} {sl_Root_rmul : Array (Option Value)} {oc_Root_rmul kV_Root_rmul dc_Root_rmul pm_Root_rmul cd_Root_rmul ct_Root_rmul : Value}
    {f_Root_rsub : Addr} {od_Root_rsub an_Root_rsub : Option Addr} {sl_Root_rsub : Array (Option Value)} {oc_Root_rsub kV_Root_rsub dc_Root_rsub pm_Root_rsub cd_Root_rsub ct_Root_rsub : Value}
    {f_Root_less : Addr} {od_Root_less an_Root_less : Option Addr} {sl_Root_less : Array (Option Value)} {oc_Root_less kV_Root_less dc_Root_less pm_Root_less cd_Root_less ct_Root_less : Value}
    {f__law_start : Addr} {od__law_start an__law_start : Option Addr} {sl__law_start : Array (Option Value)} {oc__law_start kV__law_start dc__law_start pm__law_start cd__law_start ct__law_start : Value}
    {f__law_mixed : Addr} {od__law_mixed an__law_mixed : Option Addr} {sl__law_mixed : Array (Option Value)} {oc__law_mixed kV__law_mixed dc__law_mixed pm__law_mixed cd__law_mixed ct__law_mixed : Value}
    {f__law_draw : Addr} {od__law_draw an__law_draw : Option Addr} {sl__law_draw : Array (Option Value)} {oc__law_draw kV__law_draw dc__law_draw pm__law_draw cd__law_draw ct__law_draw : Value}
    {f__law_between : Addr} {od__law_between an__law_between : Option Addr} {sl__law_between : Array (Option Value)} {oc__law_between kV__law_between dc__law_between pm__law_between cd__law_between ct__law_between : Value}
    {f__law_plus : Addr} {od__law_plus an__law_plus : Option Addr} {sl__law_plus : Array (Option Value)} {oc__law_plus kV__law_plus dc__law_plus pm__law_plus cd__law_plus ct__law_plus : Value}
    {f__law_minus : Addr} {od__law_minus an__law_minus : Option Addr} {sl__law_minus : Array (Option Value)} {oc__law_minus kV__law_minus dc__law_minus pm__law_minus cd__law_minus ct__law_minus : Value}
    {f__law_sign : Addr} {od__law_sign an__law_sign : Option Addr} {sl__law_sign : Array (Option Value)} {oc__law_sign kV__law_sign dc__law_sign pm__law_sign cd__law_sign ct__law_sign : Value}
    {f_is_corner : Addr} {od_is_corner an_is_corner : Option Addr} {sl_is_corner : Array (Option Value)} {oc_is_corner kV_is_corner dc_is_corner pm_is_corner cd_is_corner ct_is_corner : Value}
    {f_check_corner : Addr} {od_check_corner an_check_corner : Option Addr} {sl_check_corner : Array (Option Value)} {oc_check_corner kV_check_corner dc_check_corner pm_check_corner cd_check_corner ct_check_corner : Value}
    {f_step : Addr} {od_step an_step : Option Addr} {sl_step : Array (Option Value)} {oc_step kV_step dc_step pm_step cd_step ct_step : Value}
    {f__law_star : Addr} {od__law_star an__law_star : Option Addr} {sl__law_star : Array (Option Value)} {oc__law_star kV__law_star dc__law_star pm__law_star cd__law_star ct__law_star : Value}
    {f__law_corner : Addr} {od__law_corner an__law_corner : Option Addr} {sl__law_corner : Array (Option Value)} {oc__law_corner kV__law_corner dc__law_corner pm__law_corner cd__law_corner ct__law_corner : Value}
    {f__law_is_corner : Addr} {od__law_is_corner an__law_is_corner : Option Addr} {sl__law_is_corner : Array (Option Value)} {oc__law_is_corner kV__law_is_corner dc__law_is_corner pm__law_is_corner cd__law_is_corner ct__law_is_corner : Value}
    {f__law_bad_corner : Addr} {od__law_bad_corner an__law_bad_corner : Option Addr} {sl__law_bad_corner : Array (Option Value)} {oc__law_bad_corner kV__law_bad_corner dc__law_bad_corner pm__law_bad_corner cd__law_bad_corner ct__law_bad_corner : Value}
    {f_is_point : Addr} {od_is_point an_is_point : Option Addr} {sl_is_point : Array (Option Value)} {oc_is_point kV_is_point dc_is_point pm_is_point cd_is_point ct_is_point : Value}
    {f_as_roots : Addr} {od_as_roots an_as_roots : Option Addr} {sl_as_roots : Array (Option Value)} {oc_as_roots kV_as_roots dc_as_roots pm_as_roots cd_as_roots ct_as_roots : Value}
    {f__law_given : Addr} {od__law_given an__law_given : Option Addr} {sl__law_given : Array (Option Value)} {oc__law_given kV__law_given dc__law_given pm__law_given cd__law_given ct__law_given : Value}
    {f_check_point : Addr} {od_check_point an_check_point : Option Addr} {sl_check_point : Array (Option Value)} {oc_check_point kV_check_point dc_check_point pm_check_point cd_check_point ct_check_point : Value}
    {f_is_half : Addr} {od_is_half an_is_half : Option Addr} {sl_is_half : Array (Option Value)} {oc_is_half kV_is_half dc_is_half pm_is_half cd_is_half ct_is_half : Value}
    {f_bars_evenly : Addr} {od_bars_evenly an_bars_evenly : Option Addr} {sl_bars_evenly : Array (Option Value)} {oc_bars_evenly kV_bars_evenly dc_bars_evenly pm_bars_evenly cd_bars_evenly ct_bars_evenly : Value}
    {f_bars_oddly : Addr} {od_bars_oddly an_bars_oddly : Option Addr} {sl_bars_oddly : Array (Option Value)} {oc_bars_oddly kV_bars_oddly dc_bars_oddly pm_bars_oddly cd_bars_oddly ct_bars_oddly : Value}
    {f_barred : Addr} {od_barred an_barred : Option Addr} {sl_barred : Array (Option Value)} {oc_barred kV_barred dc_barred pm_barred cd_barred ct_barred : Value}
    {f_gauge_of : Addr} {od_gauge_of an_gauge_of : Option Addr} {sl_gauge_of : Array (Option Value)} {oc_gauge_of kV_gauge_of dc_gauge_of pm_gauge_of cd_gauge_of ct_gauge_of : Value}
    {f_beside : Addr} {od_beside an_beside : Option Addr} {sl_beside : Array (Option Value)} {oc_beside kV_beside dc_beside pm_beside cd_beside ct_beside : Value}
    {f_in_window : Addr} {od_in_window an_in_window : Option Addr} {sl_in_window : Array (Option Value)} {oc_in_window kV_in_window dc_in_window pm_in_window cd_in_window ct_in_window : Value}
    {f_Floor_init : Addr} {od_Floor_init an_Floor_init : Option Addr} {sl_Floor_init : Array (Option Value)} {oc_Floor_init kV_Floor_init dc_Floor_init pm_Floor_init cd_Floor_init ct_Floor_init : Value}
    {f_Floor_has_corner : Addr} {od_Floor_has_corner an_Floor_has_corner : Option Addr} {sl_Floor_has_corner : Array (Option Value)} {oc_Floor_has_corner kV_Floor_has_corner dc_Floor_has_corner pm_Floor_has_corner cd_Floor_has_corner ct_Floor_has_corner : Value}
    {f__law_lines : Addr} {od__law_lines an__law_lines : Option Addr} {sl__law_lines : Array (Option Value)} {oc__law_lines kV__law_lines dc__law_lines pm__law_lines cd__law_lines ct__law_lines : Value}
    {f__law_inside : Addr} {od__law_inside an__law_inside : Option Addr} {sl__law_inside : Array (Option Value)} {oc__law_inside kV__law_inside dc__law_inside pm__law_inside cd__law_inside ct__law_inside : Value}
    {f__law_is_odd_half : Addr} {od__law_is_odd_half an__law_is_odd_half : Option Addr} {sl__law_is_odd_half : Array (Option Value)} {oc__law_is_odd_half kV__law_is_odd_half dc__law_is_odd_half pm__law_is_odd_half cd__law_is_odd_half ct__law_is_odd_half : Value}
    {f__law_barred : Addr} {od__law_barred an__law_barred : Option Addr} {sl__law_barred : Array (Option Value)} {oc__law_barred kV__law_barred dc__law_barred pm__law_barred cd__law_barred ct__law_barred : Value}
    {f__law_spot : Addr} {od__law_spot an__law_spot : Option Addr} {sl__law_spot : Array (Option Value)} {oc__law_spot kV__law_spot dc__law_spot pm__law_spot cd__law_spot ct__law_spot : Value}
    {f__law_shift : Addr} {od__law_shift an__law_shift : Option Addr} {sl__law_shift : Array (Option Value)} {oc__law_shift kV__law_shift dc__law_shift pm__law_shift cd__law_shift ct__law_shift : Value}
    {f__law_has : Addr} {od__law_has an__law_has : Option Addr} {sl__law_has : Array (Option Value)} {oc__law_has kV__law_has dc__law_has pm__law_has cd__law_has ct__law_has : Value}
    {f_Floorways : Addr} {od_Floorways an_Floorways : Option Addr} {sl_Floorways : Array (Option Value)} {oc_Floorways kV_Floorways dc_Floorways pm_Floorways cd_Floorways ct_Floorways : Value}
    {f_Floor_sides : Addr} {od_Floor_sides an_Floor_sides : Option Addr} {sl_Floor_sides : Array (Option Value)} {oc_Floor_sides kV_Floor_sides dc_Floor_sides pm_Floor_sides cd_Floor_sides ct_Floor_sides : Value}
    {f__law_step : Addr} {od__law_step an__law_step : Option Addr} {sl__law_step : Array (Option Value)} {oc__law_step kV__law_step dc__law_step pm__law_step cd__law_step ct__law_step : Value}
    {f__law_sides : Addr} {od__law_sides an__law_sides : Option Addr} {sl__law_sides : Array (Option Value)} {oc__law_sides kV__law_sides dc__law_sides pm__law_sides cd__law_sides ct__law_sides : Value}
    {f__law_far : Addr} {od__law_far an__law_far : Option Addr} {sl__law_far : Array (Option Value)} {oc__law_far kV__law_far dc__law_far pm__law_far cd__law_far ct__law_far : Value}
    {f__law_floor : Addr} {od__law_floor an__law_floor : Option Addr} {sl__law_floor : Array (Option Value)} {oc__law_floor kV__law_floor dc__law_floor pm__law_floor cd__law_floor ct__law_floor : Value}
    {f_check_size : Addr} {od_check_size an_check_size : Option Addr} {sl_check_size : Array (Option Value)} {oc_check_size kV_check_size dc_check_size pm_check_size cd_check_size ct_check_size : Value}
    {f_Floor_around : Addr} {od_Floor_around an_Floor_around : Option Addr} {sl_Floor_around : Array (Option Value)} {oc_Floor_around kV_Floor_around dc_Floor_around pm_Floor_around cd_Floor_around ct_Floor_around : Value}
    {f__law_rings : Addr} {od__law_rings an__law_rings : Option Addr} {sl__law_rings : Array (Option Value)} {oc__law_rings kV__law_rings dc__law_rings pm__law_rings cd__law_rings ct__law_rings : Value}
    {f__law_asked : Addr} {od__law_asked an__law_asked : Option Addr} {sl__law_asked : Array (Option Value)} {oc__law_asked kV__law_asked dc__law_asked pm__law_asked cd__law_asked ct__law_asked : Value}
    {f__law_refusals : Addr} {od__law_refusals an__law_refusals : Option Addr} {sl__law_refusals : Array (Option Value)} {oc__law_refusals kV__law_refusals dc__law_refusals pm__law_refusals cd__law_refusals ct__law_refusals : Value}
    {f_law : Addr} {od_law an_law : Option Addr} {sl_law : Array (Option Value)} {oc_law kV_law dc_law pm_law cd_law ct_law : Value}
    (r_FloorError : PySem.W.nsIn K mainGlobals "FloorError" = some (some (.ref c_FloorError)))
    (r_BadNumber : PySem.W.nsIn K mainGlobals "BadNumber" = some (some (.ref c_BadNumber)))
    (r_BadPoint : PySem.W.nsIn K mainGlobals "BadPoint" = some (some (.ref c_BadPoint)))
    (r_BadCorner : PySem.W.nsIn K mainGlobals "BadCorner" = some (some (.ref c_BadCorner)))
    (r_Barred : PySem.W.nsIn K mainGlobals "Barred" = some (some (.ref c_Barred)))
    (r_NoCorner : PySem.W.nsIn K mainGlobals "NoCorner" = some (some (.ref c_NoCorner)))
    (r_BadSize : PySem.W.nsIn K mainGlobals "BadSize" = some (some (.ref c_BadSize)))
    (r_Root : PySem.W.nsIn K mainGlobals "Root" = some (some (.ref c_Root)))
    (r_Floor : PySem.W.nsIn K mainGlobals "Floor" = some (some (.ref c_Floor)))
    (r_gcd : PySem.W.nsIn K mainGlobals "gcd" = some (some (.builtin "math.gcd")))
    (r_lcm : PySem.W.nsIn K mainGlobals "lcm" = some (some (.builtin "math.lcm")))
    (r_isinstance : PySem.W.nsIn K mainGlobals "isinstance" = some none)
    (r_list : PySem.W.nsIn K mainGlobals "list" = some none)
    (r_int : PySem.W.nsIn K mainGlobals "int" = some none)
    (r_range : PySem.W.nsIn K mainGlobals "range" = some none)
    (r_len : PySem.W.nsIn K mainGlobals "len" = some none)
    (r_abs : PySem.W.nsIn K mainGlobals "abs" = some none)
    (r_all : PySem.W.nsIn K mainGlobals "all" = some none)
    (r_tuple : PySem.W.nsIn K mainGlobals "tuple" = some none)
    (r_bool : PySem.W.nsIn K mainGlobals "bool" = some none)
    (r_enumerate : PySem.W.nsIn K mainGlobals "enumerate" = some none)
    (r_sorted : PySem.W.nsIn K mainGlobals "sorted" = some none)
    (r_pg : PySem.W.plainGet K c_Root Str.empty = true)
    (r_hd : PySem.W.hasDictIn K c_Root = true)
    (r_po : PySem.W.plainOver K c_Root = true)
    (r_sa : PySem.W.findIn K (.ref c_Root) "__setattr__" = some (some (.builtin "object.__setattr__")))
    (r_ca : PySem.W.findIn K (.ref c_Root) "__class__" = some (some (.builtin "object.__class__")))
    (r_hm : PySem.W.mroIn K c_Root (.type "object") = some true)
    (r_ic : PySem.W.isClsIn K c_Root = true)
    (r_tc : PySem.W.typeIn K (.ref c_Root) = some (.type "type"))
    (r_s1 : PySem.W.mroIn K c_Root (.type "int") = some false)
    (r_s2 : PySem.W.mroIn K c_Root (.type "bool") = some false)
    (r_nt : PySem.W.findIn K (.ref c_Root) "top" = some none)
    (r_nr : PySem.W.findIn K (.ref c_Root) "root" = some none)
    (r_nb : PySem.W.findIn K (.ref c_Root) "bottom" = some none)
    (r_sf : PySem.W.selfFirst K c_Root = true)
    (r_ra : PySem.W.findIn K (.ref c_Root) "__radd__" = some (some (.ref gAX)))
    (r_rs : PySem.W.findIn K (.ref c_Root) "__rsub__" = some (some (.ref gSX)))
    (r_rm : PySem.W.findIn K (.ref c_Root) "__rmul__" = some (some (.ref gMX)))
    (o_pg_Floor : PySem.W.plainGet K c_Floor Str.empty = true)
    (o_hd_Floor : PySem.W.hasDictIn K c_Floor = true)
    (o_po_Floor : PySem.W.plainOver K c_Floor = true)
    (o_sa_Floor : PySem.W.findIn K (.ref c_Floor) "__setattr__" = some (some (.builtin "object.__setattr__")))
    (o_nf_Floor_shift : PySem.W.findIn K (.ref c_Floor) "shift" = some none)
    (o_nf_Floor__gauge : PySem.W.findIn K (.ref c_Floor) "_gauge" = some none)
    (e_L_BadNumber : K.lookup c_BadNumber = some (excClassObj nmBadNumber qBadNumber c_BadNumber NBadNumber bsBadNumber [.ref c_FloorError, .type "ValueError", .type "Exception", .type "BaseException", .type "object"] true snBadNumber subBadNumber abBadNumber colBadNumber ddBadNumber m0BadNumber m1BadNumber m2BadNumber m3BadNumber m5BadNumber "ValueError.__new__"))
    (e_sa_BadNumber : PySem.W.findIn K (.ref c_BadNumber) "__setattr__" = some (some (.builtin "object.__setattr__")))
    (e_e_BadNumber : PySem.W.mroIn K c_BadNumber (.type "BaseException") = some true)
    (e_t_BadNumber : PySem.W.typeIn K (.ref c_BadNumber) = some (.type "type"))
    (e_k_BadNumber : PySem.W.keepIn K (.ref c_BadNumber) = true)
    (e_n_BadNumber : PySem.W.findIn K (.ref c_BadNumber) "value" = some none)
    (e_ga_BadNumber : PySem.W.findIn K (.ref c_BadNumber) "__getattribute__" = some (some (.builtin "BaseException.__getattribute__")))
    (e_gg_BadNumber : PySem.W.findIn K (.ref c_BadNumber) "__getattr__" = some none)
    (e_hd_BadNumber : PySem.W.hasDictIn K c_BadNumber = true)
    (e_ic_BadNumber : PySem.W.isClsIn K c_BadNumber = true)
    (e_s_BadNumber : PySem.W.mroIn K c_BadNumber (.ref c_BadNumber) = some true)
    (e_L_BadPoint : K.lookup c_BadPoint = some (excClassObj nmBadPoint qBadPoint c_BadPoint NBadPoint bsBadPoint [.ref c_FloorError, .type "ValueError", .type "Exception", .type "BaseException", .type "object"] true snBadPoint subBadPoint abBadPoint colBadPoint ddBadPoint m0BadPoint m1BadPoint m2BadPoint m3BadPoint m5BadPoint "ValueError.__new__"))
    (e_sa_BadPoint : PySem.W.findIn K (.ref c_BadPoint) "__setattr__" = some (some (.builtin "object.__setattr__")))
    (e_e_BadPoint : PySem.W.mroIn K c_BadPoint (.type "BaseException") = some true)
    (e_t_BadPoint : PySem.W.typeIn K (.ref c_BadPoint) = some (.type "type"))
    (e_k_BadPoint : PySem.W.keepIn K (.ref c_BadPoint) = true)
    (e_n_BadPoint : PySem.W.findIn K (.ref c_BadPoint) "point" = some none)
    (e_ga_BadPoint : PySem.W.findIn K (.ref c_BadPoint) "__getattribute__" = some (some (.builtin "BaseException.__getattribute__")))
    (e_gg_BadPoint : PySem.W.findIn K (.ref c_BadPoint) "__getattr__" = some none)
    (e_hd_BadPoint : PySem.W.hasDictIn K c_BadPoint = true)
    (e_ic_BadPoint : PySem.W.isClsIn K c_BadPoint = true)
    (e_s_BadPoint : PySem.W.mroIn K c_BadPoint (.ref c_BadPoint) = some true)
    (e_L_BadCorner : K.lookup c_BadCorner = some (excClassObj nmBadCorner qBadCorner c_BadCorner NBadCorner bsBadCorner [.ref c_FloorError, .type "ValueError", .type "Exception", .type "BaseException", .type "object"] true snBadCorner subBadCorner abBadCorner colBadCorner ddBadCorner m0BadCorner m1BadCorner m2BadCorner m3BadCorner m5BadCorner "ValueError.__new__"))
    (e_sa_BadCorner : PySem.W.findIn K (.ref c_BadCorner) "__setattr__" = some (some (.builtin "object.__setattr__")))
    (e_e_BadCorner : PySem.W.mroIn K c_BadCorner (.type "BaseException") = some true)
    (e_t_BadCorner : PySem.W.typeIn K (.ref c_BadCorner) = some (.type "type"))
    (e_k_BadCorner : PySem.W.keepIn K (.ref c_BadCorner) = true)
    (e_n_BadCorner : PySem.W.findIn K (.ref c_BadCorner) "corner" = some none)
    (e_ga_BadCorner : PySem.W.findIn K (.ref c_BadCorner) "__getattribute__" = some (some (.builtin "BaseException.__getattribute__")))
    (e_gg_BadCorner : PySem.W.findIn K (.ref c_BadCorner) "__getattr__" = some none)
    (e_hd_BadCorner : PySem.W.hasDictIn K c_BadCorner = true)
    (e_ic_BadCorner : PySem.W.isClsIn K c_BadCorner = true)
    (e_s_BadCorner : PySem.W.mroIn K c_BadCorner (.ref c_BadCorner) = some true)
    (e_L_Barred : K.lookup c_Barred = some (excClassObj nmBarred qBarred c_Barred NBarred bsBarred [.ref c_FloorError, .type "ValueError", .type "Exception", .type "BaseException", .type "object"] true snBarred subBarred abBarred colBarred ddBarred m0Barred m1Barred m2Barred m3Barred m5Barred "ValueError.__new__"))
    (e_sa_Barred : PySem.W.findIn K (.ref c_Barred) "__setattr__" = some (some (.builtin "object.__setattr__")))
    (e_e_Barred : PySem.W.mroIn K c_Barred (.type "BaseException") = some true)
    (e_t_Barred : PySem.W.typeIn K (.ref c_Barred) = some (.type "type"))
    (e_k_Barred : PySem.W.keepIn K (.ref c_Barred) = true)
    (e_n_Barred : PySem.W.findIn K (.ref c_Barred) "direction" = some none)
    (e_ga_Barred : PySem.W.findIn K (.ref c_Barred) "__getattribute__" = some (some (.builtin "BaseException.__getattribute__")))
    (e_gg_Barred : PySem.W.findIn K (.ref c_Barred) "__getattr__" = some none)
    (e_hd_Barred : PySem.W.hasDictIn K c_Barred = true)
    (e_ic_Barred : PySem.W.isClsIn K c_Barred = true)
    (e_s_Barred : PySem.W.mroIn K c_Barred (.ref c_Barred) = some true)
    (e_L_NoCorner : K.lookup c_NoCorner = some (excClassObj nmNoCorner qNoCorner c_NoCorner NNoCorner bsNoCorner [.ref c_FloorError, .type "ValueError", .type "Exception", .type "BaseException", .type "object"] true snNoCorner subNoCorner abNoCorner colNoCorner ddNoCorner m0NoCorner m1NoCorner m2NoCorner m3NoCorner m5NoCorner "ValueError.__new__"))
    (e_sa_NoCorner : PySem.W.findIn K (.ref c_NoCorner) "__setattr__" = some (some (.builtin "object.__setattr__")))
    (e_e_NoCorner : PySem.W.mroIn K c_NoCorner (.type "BaseException") = some true)
    (e_t_NoCorner : PySem.W.typeIn K (.ref c_NoCorner) = some (.type "type"))
    (e_k_NoCorner : PySem.W.keepIn K (.ref c_NoCorner) = true)
    (e_n_NoCorner : PySem.W.findIn K (.ref c_NoCorner) "corner" = some none)
    (e_ga_NoCorner : PySem.W.findIn K (.ref c_NoCorner) "__getattribute__" = some (some (.builtin "BaseException.__getattribute__")))
    (e_gg_NoCorner : PySem.W.findIn K (.ref c_NoCorner) "__getattr__" = some none)
    (e_hd_NoCorner : PySem.W.hasDictIn K c_NoCorner = true)
    (e_ic_NoCorner : PySem.W.isClsIn K c_NoCorner = true)
    (e_s_NoCorner : PySem.W.mroIn K c_NoCorner (.ref c_NoCorner) = some true)
    (e_L_BadSize : K.lookup c_BadSize = some (excClassObj nmBadSize qBadSize c_BadSize NBadSize bsBadSize [.ref c_FloorError, .type "ValueError", .type "Exception", .type "BaseException", .type "object"] true snBadSize subBadSize abBadSize colBadSize ddBadSize m0BadSize m1BadSize m2BadSize m3BadSize m5BadSize "ValueError.__new__"))
    (e_sa_BadSize : PySem.W.findIn K (.ref c_BadSize) "__setattr__" = some (some (.builtin "object.__setattr__")))
    (e_e_BadSize : PySem.W.mroIn K c_BadSize (.type "BaseException") = some true)
    (e_t_BadSize : PySem.W.typeIn K (.ref c_BadSize) = some (.type "type"))
    (e_k_BadSize : PySem.W.keepIn K (.ref c_BadSize) = true)
    (e_n_BadSize : PySem.W.findIn K (.ref c_BadSize) "size" = some none)
    (e_ga_BadSize : PySem.W.findIn K (.ref c_BadSize) "__getattribute__" = some (some (.builtin "BaseException.__getattribute__")))
    (e_gg_BadSize : PySem.W.findIn K (.ref c_BadSize) "__getattr__" = some none)
    (e_hd_BadSize : PySem.W.hasDictIn K c_BadSize = true)
    (e_ic_BadSize : PySem.W.isClsIn K c_BadSize = true)
    (e_s_BadSize : PySem.W.mroIn K c_BadSize (.ref c_BadSize) = some true)
    (e_o_BadCorner_NoCorner : PySem.W.mroIn K c_BadCorner (.ref c_NoCorner) = some false)
    (e_o_BadCorner_BadSize : PySem.W.mroIn K c_BadCorner (.ref c_BadSize) = some false)
    (e_o_NoCorner_BadCorner : PySem.W.mroIn K c_NoCorner (.ref c_BadCorner) = some false)
    (e_o_NoCorner_BadSize : PySem.W.mroIn K c_NoCorner (.ref c_BadSize) = some false)
    (e_o_BadSize_BadCorner : PySem.W.mroIn K c_BadSize (.ref c_BadCorner) = some false)
    (e_o_BadSize_NoCorner : PySem.W.mroIn K c_BadSize (.ref c_NoCorner) = some false)
    (a_is_integral : PySem.W.nsIn K mainGlobals "is_integral" = some (some (.ref f_is_integral)))
    (l_is_integral : K.lookup f_is_integral = some ⟨oc_is_integral, od_is_integral, .func (PySem.W.fnOf "is_integral" "is_integral" (defArgs s_is_integral) (defBody s_is_integral) (defScope s_is_integral) .none kV_is_integral dc_is_integral pm_is_integral an_is_integral cd_is_integral ct_is_integral), sl_is_integral⟩)
    (d_is_integral : PySem.W.codeIn K cd_is_integral "is_integral" = true)
    (k_is_integral : PySem.W.keepIn K (.ref f_is_integral) = true)
    (a_BadPoint_init : PySem.W.findIn K (.ref c_BadPoint) "__init__" = some (some (.ref f_BadPoint_init)))
    (t_BadPoint_init : PySem.W.typeIn K (.ref f_BadPoint_init) = some (.type "function"))
    (l_BadPoint_init : K.lookup f_BadPoint_init = some ⟨oc_BadPoint_init, od_BadPoint_init, .func (PySem.W.fnOf "__init__" "BadPoint.__init__" (defArgs s_BadPoint_init) (defBody s_BadPoint_init) (defScope s_BadPoint_init) .none kV_BadPoint_init dc_BadPoint_init pm_BadPoint_init an_BadPoint_init cd_BadPoint_init ct_BadPoint_init), sl_BadPoint_init⟩)
    (d_BadPoint_init : PySem.W.codeIn K cd_BadPoint_init "BadPoint.__init__" = true)
    (k_BadPoint_init : PySem.W.keepIn K (.ref f_BadPoint_init) = true)
    (a_BadCorner_init : PySem.W.findIn K (.ref c_BadCorner) "__init__" = some (some (.ref f_BadCorner_init)))
    (t_BadCorner_init : PySem.W.typeIn K (.ref f_BadCorner_init) = some (.type "function"))
    (l_BadCorner_init : K.lookup f_BadCorner_init = some ⟨oc_BadCorner_init, od_BadCorner_init, .func (PySem.W.fnOf "__init__" "BadCorner.__init__" (defArgs s_BadCorner_init) (defBody s_BadCorner_init) (defScope s_BadCorner_init) .none kV_BadCorner_init dc_BadCorner_init pm_BadCorner_init an_BadCorner_init cd_BadCorner_init ct_BadCorner_init), sl_BadCorner_init⟩)
    (d_BadCorner_init : PySem.W.codeIn K cd_BadCorner_init "BadCorner.__init__" = true)
    (k_BadCorner_init : PySem.W.keepIn K (.ref f_BadCorner_init) = true)
    (a_Barred_init : PySem.W.findIn K (.ref c_Barred) "__init__" = some (some (.ref f_Barred_init)))
    (t_Barred_init : PySem.W.typeIn K (.ref f_Barred_init) = some (.type "function"))
    (l_Barred_init : K.lookup f_Barred_init = some ⟨oc_Barred_init, od_Barred_init, .func (PySem.W.fnOf "__init__" "Barred.__init__" (defArgs s_Barred_init) (defBody s_Barred_init) (defScope s_Barred_init) .none kV_Barred_init dc_Barred_init pm_Barred_init an_Barred_init cd_Barred_init ct_Barred_init), sl_Barred_init⟩)
    (d_Barred_init : PySem.W.codeIn K cd_Barred_init "Barred.__init__" = true)
    (k_Barred_init : PySem.W.keepIn K (.ref f_Barred_init) = true)
    (a_NoCorner_init : PySem.W.findIn K (.ref c_NoCorner) "__init__" = some (some (.ref f_NoCorner_init)))
    (t_NoCorner_init : PySem.W.typeIn K (.ref f_NoCorner_init) = some (.type "function"))
    (l_NoCorner_init : K.lookup f_NoCorner_init = some ⟨oc_NoCorner_init, od_NoCorner_init, .func (PySem.W.fnOf "__init__" "NoCorner.__init__" (defArgs s_NoCorner_init) (defBody s_NoCorner_init) (defScope s_NoCorner_init) .none kV_NoCorner_init dc_NoCorner_init pm_NoCorner_init an_NoCorner_init cd_NoCorner_init ct_NoCorner_init), sl_NoCorner_init⟩)
    (d_NoCorner_init : PySem.W.codeIn K cd_NoCorner_init "NoCorner.__init__" = true)
    (k_NoCorner_init : PySem.W.keepIn K (.ref f_NoCorner_init) = true)
    (a_BadSize_init : PySem.W.findIn K (.ref c_BadSize) "__init__" = some (some (.ref f_BadSize_init)))
    (t_BadSize_init : PySem.W.typeIn K (.ref f_BadSize_init) = some (.type "function"))
    (l_BadSize_init : K.lookup f_BadSize_init = some ⟨oc_BadSize_init, od_BadSize_init, .func (PySem.W.fnOf "__init__" "BadSize.__init__" (defArgs s_BadSize_init) (defBody s_BadSize_init) (defScope s_BadSize_init) .none kV_BadSize_init dc_BadSize_init pm_BadSize_init an_BadSize_init cd_BadSize_init ct_BadSize_init), sl_BadSize_init⟩)
    (d_BadSize_init : PySem.W.codeIn K cd_BadSize_init "BadSize.__init__" = true)
    (k_BadSize_init : PySem.W.keepIn K (.ref f_BadSize_init) = true)
    (a_BadNumber_init : PySem.W.findIn K (.ref c_BadNumber) "__init__" = some (some (.ref f_BadNumber_init)))
    (t_BadNumber_init : PySem.W.typeIn K (.ref f_BadNumber_init) = some (.type "function"))
    (l_BadNumber_init : K.lookup f_BadNumber_init = some ⟨oc_BadNumber_init, od_BadNumber_init, .func (PySem.W.fnOf "__init__" "BadNumber.__init__" (defArgs s_BadNumber_init) (defBody s_BadNumber_init) (defScope s_BadNumber_init) .none kV_BadNumber_init dc_BadNumber_init pm_BadNumber_init an_BadNumber_init cd_BadNumber_init ct_BadNumber_init), sl_BadNumber_init⟩)
    (d_BadNumber_init : PySem.W.codeIn K cd_BadNumber_init "BadNumber.__init__" = true)
    (k_BadNumber_init : PySem.W.keepIn K (.ref f_BadNumber_init) = true)
    (a_Root_init : PySem.W.findIn K (.ref c_Root) "__init__" = some (some (.ref f_Root_init)))
    (i_Root_init : PySem.W.isFn K (.ref f_Root_init) = true)
    (mk_Root_init : PySem.W.makesIn K c_Root = true)
    (kc_Root_init : PySem.W.keepIn K (.ref c_Root) = true)
    (l_Root_init : K.lookup f_Root_init = some ⟨oc_Root_init, od_Root_init, .func (PySem.W.fnOf "__init__" "Root.__init__" (defArgs s_Root_init) (defBody s_Root_init) (defScope s_Root_init) .none kV_Root_init dc_Root_init pm_Root_init an_Root_init cd_Root_init ct_Root_init), sl_Root_init⟩)
    (d_Root_init : PySem.W.codeIn K cd_Root_init "Root.__init__" = true)
    (k_Root_init : PySem.W.keepIn K (.ref f_Root_init) = true)
    (a_Root_eq : PySem.W.findIn K (.ref c_Root) "__eq__" = some (some (.ref f_Root_eq)))
    (i_Root_eq : PySem.W.isFn K (.ref f_Root_eq) = true)
    (l_Root_eq : K.lookup f_Root_eq = some ⟨oc_Root_eq, od_Root_eq, .func (PySem.W.fnOf "__eq__" "Root.__eq__" (defArgs s_Root_eq) (defBody s_Root_eq) (defScope s_Root_eq) .none kV_Root_eq dc_Root_eq pm_Root_eq an_Root_eq cd_Root_eq ct_Root_eq), sl_Root_eq⟩)
    (d_Root_eq : PySem.W.codeIn K cd_Root_eq "Root.__eq__" = true)
    (k_Root_eq : PySem.W.keepIn K (.ref f_Root_eq) = true)
    (a_Root_neg : PySem.W.findIn K (.ref c_Root) "__neg__" = some (some (.ref f_Root_neg)))
    (i_Root_neg : PySem.W.isFn K (.ref f_Root_neg) = true)
    (l_Root_neg : K.lookup f_Root_neg = some ⟨oc_Root_neg, od_Root_neg, .func (PySem.W.fnOf "__neg__" "Root.__neg__" (defArgs s_Root_neg) (defBody s_Root_neg) (defScope s_Root_neg) .none kV_Root_neg dc_Root_neg pm_Root_neg an_Root_neg cd_Root_neg ct_Root_neg), sl_Root_neg⟩)
    (d_Root_neg : PySem.W.codeIn K cd_Root_neg "Root.__neg__" = true)
    (k_Root_neg : PySem.W.keepIn K (.ref f_Root_neg) = true)
    (a_is_number : PySem.W.nsIn K mainGlobals "is_number" = some (some (.ref f_is_number)))
    (l_is_number : K.lookup f_is_number = some ⟨oc_is_number, od_is_number, .func (PySem.W.fnOf "is_number" "is_number" (defArgs s_is_number) (defBody s_is_number) (defScope s_is_number) .none kV_is_number dc_is_number pm_is_number an_is_number cd_is_number ct_is_number), sl_is_number⟩)
    (d_is_number : PySem.W.codeIn K cd_is_number "is_number" = true)
    (k_is_number : PySem.W.keepIn K (.ref f_is_number) = true)
    (a_as_root : PySem.W.nsIn K mainGlobals "as_root" = some (some (.ref f_as_root)))
    (l_as_root : K.lookup f_as_root = some ⟨oc_as_root, od_as_root, .func (PySem.W.fnOf "as_root" "as_root" (defArgs s_as_root) (defBody s_as_root) (defScope s_as_root) .none kV_as_root dc_as_root pm_as_root an_as_root cd_as_root ct_as_root), sl_as_root⟩)
    (d_as_root : PySem.W.codeIn K cd_as_root "as_root" = true)
    (k_as_root : PySem.W.keepIn K (.ref f_as_root) = true)
    (a_surd_sign : PySem.W.nsIn K mainGlobals "surd_sign" = some (some (.ref f_surd_sign)))
    (l_surd_sign : K.lookup f_surd_sign = some ⟨oc_surd_sign, od_surd_sign, .func (PySem.W.fnOf "surd_sign" "surd_sign" (defArgs s_surd_sign) (defBody s_surd_sign) (defScope s_surd_sign) .none kV_surd_sign dc_surd_sign pm_surd_sign an_surd_sign cd_surd_sign ct_surd_sign), sl_surd_sign⟩)
    (d_surd_sign : PySem.W.codeIn K cd_surd_sign "surd_sign" = true)
    (k_surd_sign : PySem.W.keepIn K (.ref f_surd_sign) = true)
    (a_Root_add : PySem.W.findIn K (.ref c_Root) "__add__" = some (some (.ref f_Root_add)))
    (i_Root_add : PySem.W.isFn K (.ref f_Root_add) = true)
    (l_Root_add : K.lookup f_Root_add = some ⟨oc_Root_add, od_Root_add, .func (PySem.W.fnOf "__add__" "Root.__add__" (defArgs s_Root_add) (defBody s_Root_add) (defScope s_Root_add) .none kV_Root_add dc_Root_add pm_Root_add an_Root_add cd_Root_add ct_Root_add), sl_Root_add⟩)
    (d_Root_add : PySem.W.codeIn K cd_Root_add "Root.__add__" = true)
    (k_Root_add : PySem.W.keepIn K (.ref f_Root_add) = true)
    (a_Root_sub : PySem.W.findIn K (.ref c_Root) "__sub__" = some (some (.ref f_Root_sub)))
    (i_Root_sub : PySem.W.isFn K (.ref f_Root_sub) = true)
    (l_Root_sub : K.lookup f_Root_sub = some ⟨oc_Root_sub, od_Root_sub, .func (PySem.W.fnOf "__sub__" "Root.__sub__" (defArgs s_Root_sub) (defBody s_Root_sub) (defScope s_Root_sub) .none kV_Root_sub dc_Root_sub pm_Root_sub an_Root_sub cd_Root_sub ct_Root_sub), sl_Root_sub⟩)
    (d_Root_sub : PySem.W.codeIn K cd_Root_sub "Root.__sub__" = true)
    (k_Root_sub : PySem.W.keepIn K (.ref f_Root_sub) = true)
    (a_Root_mul : PySem.W.findIn K (.ref c_Root) "__mul__" = some (some (.ref f_Root_mul)))
    (i_Root_mul : PySem.W.isFn K (.ref f_Root_mul) = true)
    (l_Root_mul : K.lookup f_Root_mul = some ⟨oc_Root_mul, od_Root_mul, .func (PySem.W.fnOf "__mul__" "Root.__mul__" (defArgs s_Root_mul) (defBody s_Root_mul) (defScope s_Root_mul) .none kV_Root_mul dc_Root_mul pm_Root_mul an_Root_mul cd_Root_mul ct_Root_mul), sl_Root_mul⟩)
    (d_Root_mul : PySem.W.codeIn K cd_Root_mul "Root.__mul__" = true)
    (k_Root_mul : PySem.W.keepIn K (.ref f_Root_mul) = true)
    (a_Root_radd : PySem.W.findIn K (.ref c_Root) "__radd__" = some (some (.ref f_Root_radd)))
    (i_Root_radd : PySem.W.isFn K (.ref f_Root_radd) = true)
    (l_Root_radd : K.lookup f_Root_radd = some ⟨oc_Root_radd, od_Root_radd, .func (PySem.W.fnOf "__radd__" "Root.__radd__" (defArgs s_Root_radd) (defBody s_Root_radd) (defScope s_Root_radd) .none kV_Root_radd dc_Root_radd pm_Root_radd an_Root_radd cd_Root_radd ct_Root_radd), sl_Root_radd⟩)
    (d_Root_radd : PySem.W.codeIn K cd_Root_radd "Root.__radd__" = true)
    (k_Root_radd : PySem.W.keepIn K (.ref f_Root_radd) = true)
    (a_Root_rmul : PySem.W.findIn K (.ref c_Root) "__rmul__" = some (some (.ref f_Root_rmul)))
    (i_Root_rmul : PySem.W.isFn K (.ref f_Root_rmul) = true)
    (l_Root_rmul : K.lookup f_Root_rmul = some ⟨oc_Root_rmul, od_Root_rmul, .func (PySem.W.fnOf "__rmul__" "Root.__rmul__" (defArgs s_Root_rmul) (defBody s_Root_rmul) (defScope s_Root_rmul) .none kV_Root_rmul dc_Root_rmul pm_Root_rmul an_Root_rmul cd_Root_rmul ct_Root_rmul), sl_Root_rmul⟩)
    (d_Root_rmul : PySem.W.codeIn K cd_Root_rmul "Root.__rmul__" = true)
    (k_Root_rmul : PySem.W.keepIn K (.ref f_Root_rmul) = true)
    (a_Root_rsub : PySem.W.findIn K (.ref c_Root) "__rsub__" = some (some (.ref f_Root_rsub)))
    (i_Root_rsub : PySem.W.isFn K (.ref f_Root_rsub) = true)
    (l_Root_rsub : K.lookup f_Root_rsub = some ⟨oc_Root_rsub, od_Root_rsub, .func (PySem.W.fnOf "__rsub__" "Root.__rsub__" (defArgs s_Root_rsub) (defBody s_Root_rsub) (defScope s_Root_rsub) .none kV_Root_rsub dc_Root_rsub pm_Root_rsub an_Root_rsub cd_Root_rsub ct_Root_rsub), sl_Root_rsub⟩)
    (d_Root_rsub : PySem.W.codeIn K cd_Root_rsub "Root.__rsub__" = true)
    (k_Root_rsub : PySem.W.keepIn K (.ref f_Root_rsub) = true)
    (a_Root_less : PySem.W.findIn K (.ref c_Root) "less" = some (some (.ref f_Root_less)))
    (i_Root_less : PySem.W.isFn K (.ref f_Root_less) = true)
    (l_Root_less : K.lookup f_Root_less = some ⟨oc_Root_less, od_Root_less, .func (PySem.W.fnOf "less" "Root.less" (defArgs s_Root_less) (defBody s_Root_less) (defScope s_Root_less) .none kV_Root_less dc_Root_less pm_Root_less an_Root_less cd_Root_less ct_Root_less), sl_Root_less⟩)
    (d_Root_less : PySem.W.codeIn K cd_Root_less "Root.less" = true)
    (k_Root_less : PySem.W.keepIn K (.ref f_Root_less) = true)
    (a__law_start : PySem.W.nsIn K mainGlobals "_law_start" = some (some (.ref f__law_start)))
    (l__law_start : K.lookup f__law_start = some ⟨oc__law_start, od__law_start, .func (PySem.W.fnOf "_law_start" "_law_start" (defArgs s__law_start) (defBody s__law_start) (defScope s__law_start) .none kV__law_start dc__law_start pm__law_start an__law_start cd__law_start ct__law_start), sl__law_start⟩)
    (d__law_start : PySem.W.codeIn K cd__law_start "_law_start" = true)
    (k__law_start : PySem.W.keepIn K (.ref f__law_start) = true)
    (a__law_mixed : PySem.W.nsIn K mainGlobals "_law_mixed" = some (some (.ref f__law_mixed)))
    (l__law_mixed : K.lookup f__law_mixed = some ⟨oc__law_mixed, od__law_mixed, .func (PySem.W.fnOf "_law_mixed" "_law_mixed" (defArgs s__law_mixed) (defBody s__law_mixed) (defScope s__law_mixed) .none kV__law_mixed dc__law_mixed pm__law_mixed an__law_mixed cd__law_mixed ct__law_mixed), sl__law_mixed⟩)
    (d__law_mixed : PySem.W.codeIn K cd__law_mixed "_law_mixed" = true)
    (k__law_mixed : PySem.W.keepIn K (.ref f__law_mixed) = true)
    (a__law_draw : PySem.W.nsIn K mainGlobals "_law_draw" = some (some (.ref f__law_draw)))
    (l__law_draw : K.lookup f__law_draw = some ⟨oc__law_draw, od__law_draw, .func (PySem.W.fnOf "_law_draw" "_law_draw" (defArgs s__law_draw) (defBody s__law_draw) (defScope s__law_draw) .none kV__law_draw dc__law_draw pm__law_draw an__law_draw cd__law_draw ct__law_draw), sl__law_draw⟩)
    (d__law_draw : PySem.W.codeIn K cd__law_draw "_law_draw" = true)
    (k__law_draw : PySem.W.keepIn K (.ref f__law_draw) = true)
    (a__law_between : PySem.W.nsIn K mainGlobals "_law_between" = some (some (.ref f__law_between)))
    (l__law_between : K.lookup f__law_between = some ⟨oc__law_between, od__law_between, .func (PySem.W.fnOf "_law_between" "_law_between" (defArgs s__law_between) (defBody s__law_between) (defScope s__law_between) .none kV__law_between dc__law_between pm__law_between an__law_between cd__law_between ct__law_between), sl__law_between⟩)
    (d__law_between : PySem.W.codeIn K cd__law_between "_law_between" = true)
    (k__law_between : PySem.W.keepIn K (.ref f__law_between) = true)
    (a__law_plus : PySem.W.nsIn K mainGlobals "_law_plus" = some (some (.ref f__law_plus)))
    (l__law_plus : K.lookup f__law_plus = some ⟨oc__law_plus, od__law_plus, .func (PySem.W.fnOf "_law_plus" "_law_plus" (defArgs s__law_plus) (defBody s__law_plus) (defScope s__law_plus) .none kV__law_plus dc__law_plus pm__law_plus an__law_plus cd__law_plus ct__law_plus), sl__law_plus⟩)
    (d__law_plus : PySem.W.codeIn K cd__law_plus "_law_plus" = true)
    (k__law_plus : PySem.W.keepIn K (.ref f__law_plus) = true)
    (a__law_minus : PySem.W.nsIn K mainGlobals "_law_minus" = some (some (.ref f__law_minus)))
    (l__law_minus : K.lookup f__law_minus = some ⟨oc__law_minus, od__law_minus, .func (PySem.W.fnOf "_law_minus" "_law_minus" (defArgs s__law_minus) (defBody s__law_minus) (defScope s__law_minus) .none kV__law_minus dc__law_minus pm__law_minus an__law_minus cd__law_minus ct__law_minus), sl__law_minus⟩)
    (d__law_minus : PySem.W.codeIn K cd__law_minus "_law_minus" = true)
    (k__law_minus : PySem.W.keepIn K (.ref f__law_minus) = true)
    (a__law_sign : PySem.W.nsIn K mainGlobals "_law_sign" = some (some (.ref f__law_sign)))
    (l__law_sign : K.lookup f__law_sign = some ⟨oc__law_sign, od__law_sign, .func (PySem.W.fnOf "_law_sign" "_law_sign" (defArgs s__law_sign) (defBody s__law_sign) (defScope s__law_sign) .none kV__law_sign dc__law_sign pm__law_sign an__law_sign cd__law_sign ct__law_sign), sl__law_sign⟩)
    (d__law_sign : PySem.W.codeIn K cd__law_sign "_law_sign" = true)
    (k__law_sign : PySem.W.keepIn K (.ref f__law_sign) = true)
    (a_is_corner : PySem.W.nsIn K mainGlobals "is_corner" = some (some (.ref f_is_corner)))
    (l_is_corner : K.lookup f_is_corner = some ⟨oc_is_corner, od_is_corner, .func (PySem.W.fnOf "is_corner" "is_corner" (defArgs s_is_corner) (defBody s_is_corner) (defScope s_is_corner) .none kV_is_corner dc_is_corner pm_is_corner an_is_corner cd_is_corner ct_is_corner), sl_is_corner⟩)
    (d_is_corner : PySem.W.codeIn K cd_is_corner "is_corner" = true)
    (k_is_corner : PySem.W.keepIn K (.ref f_is_corner) = true)
    (a_check_corner : PySem.W.nsIn K mainGlobals "check_corner" = some (some (.ref f_check_corner)))
    (l_check_corner : K.lookup f_check_corner = some ⟨oc_check_corner, od_check_corner, .func (PySem.W.fnOf "check_corner" "check_corner" (defArgs s_check_corner) (defBody s_check_corner) (defScope s_check_corner) .none kV_check_corner dc_check_corner pm_check_corner an_check_corner cd_check_corner ct_check_corner), sl_check_corner⟩)
    (d_check_corner : PySem.W.codeIn K cd_check_corner "check_corner" = true)
    (k_check_corner : PySem.W.keepIn K (.ref f_check_corner) = true)
    (a_step : PySem.W.nsIn K mainGlobals "step" = some (some (.ref f_step)))
    (l_step : K.lookup f_step = some ⟨oc_step, od_step, .func (PySem.W.fnOf "step" "step" (defArgs s_step) (defBody s_step) (defScope s_step) .none kV_step dc_step pm_step an_step cd_step ct_step), sl_step⟩)
    (d_step : PySem.W.codeIn K cd_step "step" = true)
    (k_step : PySem.W.keepIn K (.ref f_step) = true)
    (a__law_star : PySem.W.nsIn K mainGlobals "_law_star" = some (some (.ref f__law_star)))
    (l__law_star : K.lookup f__law_star = some ⟨oc__law_star, od__law_star, .func (PySem.W.fnOf "_law_star" "_law_star" (defArgs s__law_star) (defBody s__law_star) (defScope s__law_star) .none kV__law_star dc__law_star pm__law_star an__law_star cd__law_star ct__law_star), sl__law_star⟩)
    (d__law_star : PySem.W.codeIn K cd__law_star "_law_star" = true)
    (k__law_star : PySem.W.keepIn K (.ref f__law_star) = true)
    (a__law_corner : PySem.W.nsIn K mainGlobals "_law_corner" = some (some (.ref f__law_corner)))
    (l__law_corner : K.lookup f__law_corner = some ⟨oc__law_corner, od__law_corner, .func (PySem.W.fnOf "_law_corner" "_law_corner" (defArgs s__law_corner) (defBody s__law_corner) (defScope s__law_corner) .none kV__law_corner dc__law_corner pm__law_corner an__law_corner cd__law_corner ct__law_corner), sl__law_corner⟩)
    (d__law_corner : PySem.W.codeIn K cd__law_corner "_law_corner" = true)
    (k__law_corner : PySem.W.keepIn K (.ref f__law_corner) = true)
    (a__law_is_corner : PySem.W.nsIn K mainGlobals "_law_is_corner" = some (some (.ref f__law_is_corner)))
    (l__law_is_corner : K.lookup f__law_is_corner = some ⟨oc__law_is_corner, od__law_is_corner, .func (PySem.W.fnOf "_law_is_corner" "_law_is_corner" (defArgs s__law_is_corner) (defBody s__law_is_corner) (defScope s__law_is_corner) .none kV__law_is_corner dc__law_is_corner pm__law_is_corner an__law_is_corner cd__law_is_corner ct__law_is_corner), sl__law_is_corner⟩)
    (d__law_is_corner : PySem.W.codeIn K cd__law_is_corner "_law_is_corner" = true)
    (k__law_is_corner : PySem.W.keepIn K (.ref f__law_is_corner) = true)
    (a__law_bad_corner : PySem.W.nsIn K mainGlobals "_law_bad_corner" = some (some (.ref f__law_bad_corner)))
    (l__law_bad_corner : K.lookup f__law_bad_corner = some ⟨oc__law_bad_corner, od__law_bad_corner, .func (PySem.W.fnOf "_law_bad_corner" "_law_bad_corner" (defArgs s__law_bad_corner) (defBody s__law_bad_corner) (defScope s__law_bad_corner) .none kV__law_bad_corner dc__law_bad_corner pm__law_bad_corner an__law_bad_corner cd__law_bad_corner ct__law_bad_corner), sl__law_bad_corner⟩)
    (d__law_bad_corner : PySem.W.codeIn K cd__law_bad_corner "_law_bad_corner" = true)
    (k__law_bad_corner : PySem.W.keepIn K (.ref f__law_bad_corner) = true)
    (a_is_point : PySem.W.nsIn K mainGlobals "is_point" = some (some (.ref f_is_point)))
    (l_is_point : K.lookup f_is_point = some ⟨oc_is_point, od_is_point, .func (PySem.W.fnOf "is_point" "is_point" (defArgs s_is_point) (defBody s_is_point) (defScope s_is_point) .none kV_is_point dc_is_point pm_is_point an_is_point cd_is_point ct_is_point), sl_is_point⟩)
    (d_is_point : PySem.W.codeIn K cd_is_point "is_point" = true)
    (k_is_point : PySem.W.keepIn K (.ref f_is_point) = true)
    (a_as_roots : PySem.W.nsIn K mainGlobals "as_roots" = some (some (.ref f_as_roots)))
    (l_as_roots : K.lookup f_as_roots = some ⟨oc_as_roots, od_as_roots, .func (PySem.W.fnOf "as_roots" "as_roots" (defArgs s_as_roots) (defBody s_as_roots) (defScope s_as_roots) .none kV_as_roots dc_as_roots pm_as_roots an_as_roots cd_as_roots ct_as_roots), sl_as_roots⟩)
    (d_as_roots : PySem.W.codeIn K cd_as_roots "as_roots" = true)
    (k_as_roots : PySem.W.keepIn K (.ref f_as_roots) = true)
    (a__law_given : PySem.W.nsIn K mainGlobals "_law_given" = some (some (.ref f__law_given)))
    (l__law_given : K.lookup f__law_given = some ⟨oc__law_given, od__law_given, .func (PySem.W.fnOf "_law_given" "_law_given" (defArgs s__law_given) (defBody s__law_given) (defScope s__law_given) .none kV__law_given dc__law_given pm__law_given an__law_given cd__law_given ct__law_given), sl__law_given⟩)
    (d__law_given : PySem.W.codeIn K cd__law_given "_law_given" = true)
    (k__law_given : PySem.W.keepIn K (.ref f__law_given) = true)
    (a_check_point : PySem.W.nsIn K mainGlobals "check_point" = some (some (.ref f_check_point)))
    (l_check_point : K.lookup f_check_point = some ⟨oc_check_point, od_check_point, .func (PySem.W.fnOf "check_point" "check_point" (defArgs s_check_point) (defBody s_check_point) (defScope s_check_point) .none kV_check_point dc_check_point pm_check_point an_check_point cd_check_point ct_check_point), sl_check_point⟩)
    (d_check_point : PySem.W.codeIn K cd_check_point "check_point" = true)
    (k_check_point : PySem.W.keepIn K (.ref f_check_point) = true)
    (a_is_half : PySem.W.nsIn K mainGlobals "is_half" = some (some (.ref f_is_half)))
    (l_is_half : K.lookup f_is_half = some ⟨oc_is_half, od_is_half, .func (PySem.W.fnOf "is_half" "is_half" (defArgs s_is_half) (defBody s_is_half) (defScope s_is_half) .none kV_is_half dc_is_half pm_is_half an_is_half cd_is_half ct_is_half), sl_is_half⟩)
    (d_is_half : PySem.W.codeIn K cd_is_half "is_half" = true)
    (k_is_half : PySem.W.keepIn K (.ref f_is_half) = true)
    (a_bars_evenly : PySem.W.nsIn K mainGlobals "bars_evenly" = some (some (.ref f_bars_evenly)))
    (l_bars_evenly : K.lookup f_bars_evenly = some ⟨oc_bars_evenly, od_bars_evenly, .func (PySem.W.fnOf "bars_evenly" "bars_evenly" (defArgs s_bars_evenly) (defBody s_bars_evenly) (defScope s_bars_evenly) .none kV_bars_evenly dc_bars_evenly pm_bars_evenly an_bars_evenly cd_bars_evenly ct_bars_evenly), sl_bars_evenly⟩)
    (d_bars_evenly : PySem.W.codeIn K cd_bars_evenly "bars_evenly" = true)
    (k_bars_evenly : PySem.W.keepIn K (.ref f_bars_evenly) = true)
    (a_bars_oddly : PySem.W.nsIn K mainGlobals "bars_oddly" = some (some (.ref f_bars_oddly)))
    (l_bars_oddly : K.lookup f_bars_oddly = some ⟨oc_bars_oddly, od_bars_oddly, .func (PySem.W.fnOf "bars_oddly" "bars_oddly" (defArgs s_bars_oddly) (defBody s_bars_oddly) (defScope s_bars_oddly) .none kV_bars_oddly dc_bars_oddly pm_bars_oddly an_bars_oddly cd_bars_oddly ct_bars_oddly), sl_bars_oddly⟩)
    (d_bars_oddly : PySem.W.codeIn K cd_bars_oddly "bars_oddly" = true)
    (k_bars_oddly : PySem.W.keepIn K (.ref f_bars_oddly) = true)
    (a_barred : PySem.W.nsIn K mainGlobals "barred" = some (some (.ref f_barred)))
    (l_barred : K.lookup f_barred = some ⟨oc_barred, od_barred, .func (PySem.W.fnOf "barred" "barred" (defArgs s_barred) (defBody s_barred) (defScope s_barred) .none kV_barred dc_barred pm_barred an_barred cd_barred ct_barred), sl_barred⟩)
    (d_barred : PySem.W.codeIn K cd_barred "barred" = true)
    (k_barred : PySem.W.keepIn K (.ref f_barred) = true)
    (a_gauge_of : PySem.W.nsIn K mainGlobals "gauge_of" = some (some (.ref f_gauge_of)))
    (l_gauge_of : K.lookup f_gauge_of = some ⟨oc_gauge_of, od_gauge_of, .func (PySem.W.fnOf "gauge_of" "gauge_of" (defArgs s_gauge_of) (defBody s_gauge_of) (defScope s_gauge_of) .none kV_gauge_of dc_gauge_of pm_gauge_of an_gauge_of cd_gauge_of ct_gauge_of), sl_gauge_of⟩)
    (d_gauge_of : PySem.W.codeIn K cd_gauge_of "gauge_of" = true)
    (k_gauge_of : PySem.W.keepIn K (.ref f_gauge_of) = true)
    (a_beside : PySem.W.nsIn K mainGlobals "beside" = some (some (.ref f_beside)))
    (l_beside : K.lookup f_beside = some ⟨oc_beside, od_beside, .func (PySem.W.fnOf "beside" "beside" (defArgs s_beside) (defBody s_beside) (defScope s_beside) .none kV_beside dc_beside pm_beside an_beside cd_beside ct_beside), sl_beside⟩)
    (d_beside : PySem.W.codeIn K cd_beside "beside" = true)
    (k_beside : PySem.W.keepIn K (.ref f_beside) = true)
    (a_in_window : PySem.W.nsIn K mainGlobals "in_window" = some (some (.ref f_in_window)))
    (l_in_window : K.lookup f_in_window = some ⟨oc_in_window, od_in_window, .func (PySem.W.fnOf "in_window" "in_window" (defArgs s_in_window) (defBody s_in_window) (defScope s_in_window) .none kV_in_window dc_in_window pm_in_window an_in_window cd_in_window ct_in_window), sl_in_window⟩)
    (d_in_window : PySem.W.codeIn K cd_in_window "in_window" = true)
    (k_in_window : PySem.W.keepIn K (.ref f_in_window) = true)
    (a_Floor_init : PySem.W.findIn K (.ref c_Floor) "__init__" = some (some (.ref f_Floor_init)))
    (i_Floor_init : PySem.W.isFn K (.ref f_Floor_init) = true)
    (mk_Floor_init : PySem.W.makesIn K c_Floor = true)
    (kc_Floor_init : PySem.W.keepIn K (.ref c_Floor) = true)
    (l_Floor_init : K.lookup f_Floor_init = some ⟨oc_Floor_init, od_Floor_init, .func (PySem.W.fnOf "__init__" "Floor.__init__" (defArgs s_Floor_init) (defBody s_Floor_init) (defScope s_Floor_init) .none kV_Floor_init dc_Floor_init pm_Floor_init an_Floor_init cd_Floor_init ct_Floor_init), sl_Floor_init⟩)
    (d_Floor_init : PySem.W.codeIn K cd_Floor_init "Floor.__init__" = true)
    (k_Floor_init : PySem.W.keepIn K (.ref f_Floor_init) = true)
    (a_Floor_has_corner : PySem.W.findIn K (.ref c_Floor) "has_corner" = some (some (.ref f_Floor_has_corner)))
    (i_Floor_has_corner : PySem.W.isFn K (.ref f_Floor_has_corner) = true)
    (l_Floor_has_corner : K.lookup f_Floor_has_corner = some ⟨oc_Floor_has_corner, od_Floor_has_corner, .func (PySem.W.fnOf "has_corner" "Floor.has_corner" (defArgs s_Floor_has_corner) (defBody s_Floor_has_corner) (defScope s_Floor_has_corner) .none kV_Floor_has_corner dc_Floor_has_corner pm_Floor_has_corner an_Floor_has_corner cd_Floor_has_corner ct_Floor_has_corner), sl_Floor_has_corner⟩)
    (d_Floor_has_corner : PySem.W.codeIn K cd_Floor_has_corner "Floor.has_corner" = true)
    (k_Floor_has_corner : PySem.W.keepIn K (.ref f_Floor_has_corner) = true)
    (a__law_lines : PySem.W.nsIn K mainGlobals "_law_lines" = some (some (.ref f__law_lines)))
    (l__law_lines : K.lookup f__law_lines = some ⟨oc__law_lines, od__law_lines, .func (PySem.W.fnOf "_law_lines" "_law_lines" (defArgs s__law_lines) (defBody s__law_lines) (defScope s__law_lines) .none kV__law_lines dc__law_lines pm__law_lines an__law_lines cd__law_lines ct__law_lines), sl__law_lines⟩)
    (d__law_lines : PySem.W.codeIn K cd__law_lines "_law_lines" = true)
    (k__law_lines : PySem.W.keepIn K (.ref f__law_lines) = true)
    (a__law_inside : PySem.W.nsIn K mainGlobals "_law_inside" = some (some (.ref f__law_inside)))
    (l__law_inside : K.lookup f__law_inside = some ⟨oc__law_inside, od__law_inside, .func (PySem.W.fnOf "_law_inside" "_law_inside" (defArgs s__law_inside) (defBody s__law_inside) (defScope s__law_inside) .none kV__law_inside dc__law_inside pm__law_inside an__law_inside cd__law_inside ct__law_inside), sl__law_inside⟩)
    (d__law_inside : PySem.W.codeIn K cd__law_inside "_law_inside" = true)
    (k__law_inside : PySem.W.keepIn K (.ref f__law_inside) = true)
    (a__law_is_odd_half : PySem.W.nsIn K mainGlobals "_law_is_odd_half" = some (some (.ref f__law_is_odd_half)))
    (l__law_is_odd_half : K.lookup f__law_is_odd_half = some ⟨oc__law_is_odd_half, od__law_is_odd_half, .func (PySem.W.fnOf "_law_is_odd_half" "_law_is_odd_half" (defArgs s__law_is_odd_half) (defBody s__law_is_odd_half) (defScope s__law_is_odd_half) .none kV__law_is_odd_half dc__law_is_odd_half pm__law_is_odd_half an__law_is_odd_half cd__law_is_odd_half ct__law_is_odd_half), sl__law_is_odd_half⟩)
    (d__law_is_odd_half : PySem.W.codeIn K cd__law_is_odd_half "_law_is_odd_half" = true)
    (k__law_is_odd_half : PySem.W.keepIn K (.ref f__law_is_odd_half) = true)
    (a__law_barred : PySem.W.nsIn K mainGlobals "_law_barred" = some (some (.ref f__law_barred)))
    (l__law_barred : K.lookup f__law_barred = some ⟨oc__law_barred, od__law_barred, .func (PySem.W.fnOf "_law_barred" "_law_barred" (defArgs s__law_barred) (defBody s__law_barred) (defScope s__law_barred) .none kV__law_barred dc__law_barred pm__law_barred an__law_barred cd__law_barred ct__law_barred), sl__law_barred⟩)
    (d__law_barred : PySem.W.codeIn K cd__law_barred "_law_barred" = true)
    (k__law_barred : PySem.W.keepIn K (.ref f__law_barred) = true)
    (a__law_spot : PySem.W.nsIn K mainGlobals "_law_spot" = some (some (.ref f__law_spot)))
    (l__law_spot : K.lookup f__law_spot = some ⟨oc__law_spot, od__law_spot, .func (PySem.W.fnOf "_law_spot" "_law_spot" (defArgs s__law_spot) (defBody s__law_spot) (defScope s__law_spot) .none kV__law_spot dc__law_spot pm__law_spot an__law_spot cd__law_spot ct__law_spot), sl__law_spot⟩)
    (d__law_spot : PySem.W.codeIn K cd__law_spot "_law_spot" = true)
    (k__law_spot : PySem.W.keepIn K (.ref f__law_spot) = true)
    (a__law_shift : PySem.W.nsIn K mainGlobals "_law_shift" = some (some (.ref f__law_shift)))
    (l__law_shift : K.lookup f__law_shift = some ⟨oc__law_shift, od__law_shift, .func (PySem.W.fnOf "_law_shift" "_law_shift" (defArgs s__law_shift) (defBody s__law_shift) (defScope s__law_shift) .none kV__law_shift dc__law_shift pm__law_shift an__law_shift cd__law_shift ct__law_shift), sl__law_shift⟩)
    (d__law_shift : PySem.W.codeIn K cd__law_shift "_law_shift" = true)
    (k__law_shift : PySem.W.keepIn K (.ref f__law_shift) = true)
    (a__law_has : PySem.W.nsIn K mainGlobals "_law_has" = some (some (.ref f__law_has)))
    (l__law_has : K.lookup f__law_has = some ⟨oc__law_has, od__law_has, .func (PySem.W.fnOf "_law_has" "_law_has" (defArgs s__law_has) (defBody s__law_has) (defScope s__law_has) .none kV__law_has dc__law_has pm__law_has an__law_has cd__law_has ct__law_has), sl__law_has⟩)
    (d__law_has : PySem.W.codeIn K cd__law_has "_law_has" = true)
    (k__law_has : PySem.W.keepIn K (.ref f__law_has) = true)
    (a_Floorways : PySem.W.findIn K (.ref c_Floor) "_ways" = some (some (.ref f_Floorways)))
    (i_Floorways : PySem.W.isFn K (.ref f_Floorways) = true)
    (l_Floorways : K.lookup f_Floorways = some ⟨oc_Floorways, od_Floorways, .func (PySem.W.fnOf "_ways" "Floor._ways" (defArgs s_Floorways) (defBody s_Floorways) (defScope s_Floorways) .none kV_Floorways dc_Floorways pm_Floorways an_Floorways cd_Floorways ct_Floorways), sl_Floorways⟩)
    (d_Floorways : PySem.W.codeIn K cd_Floorways "Floor._ways" = true)
    (k_Floorways : PySem.W.keepIn K (.ref f_Floorways) = true)
    (a_Floor_sides : PySem.W.findIn K (.ref c_Floor) "sides" = some (some (.ref f_Floor_sides)))
    (i_Floor_sides : PySem.W.isFn K (.ref f_Floor_sides) = true)
    (l_Floor_sides : K.lookup f_Floor_sides = some ⟨oc_Floor_sides, od_Floor_sides, .func (PySem.W.fnOf "sides" "Floor.sides" (defArgs s_Floor_sides) (defBody s_Floor_sides) (defScope s_Floor_sides) .none kV_Floor_sides dc_Floor_sides pm_Floor_sides an_Floor_sides cd_Floor_sides ct_Floor_sides), sl_Floor_sides⟩)
    (d_Floor_sides : PySem.W.codeIn K cd_Floor_sides "Floor.sides" = true)
    (k_Floor_sides : PySem.W.keepIn K (.ref f_Floor_sides) = true)
    (a__law_step : PySem.W.nsIn K mainGlobals "_law_step" = some (some (.ref f__law_step)))
    (l__law_step : K.lookup f__law_step = some ⟨oc__law_step, od__law_step, .func (PySem.W.fnOf "_law_step" "_law_step" (defArgs s__law_step) (defBody s__law_step) (defScope s__law_step) .none kV__law_step dc__law_step pm__law_step an__law_step cd__law_step ct__law_step), sl__law_step⟩)
    (d__law_step : PySem.W.codeIn K cd__law_step "_law_step" = true)
    (k__law_step : PySem.W.keepIn K (.ref f__law_step) = true)
    (a__law_sides : PySem.W.nsIn K mainGlobals "_law_sides" = some (some (.ref f__law_sides)))
    (l__law_sides : K.lookup f__law_sides = some ⟨oc__law_sides, od__law_sides, .func (PySem.W.fnOf "_law_sides" "_law_sides" (defArgs s__law_sides) (defBody s__law_sides) (defScope s__law_sides) .none kV__law_sides dc__law_sides pm__law_sides an__law_sides cd__law_sides ct__law_sides), sl__law_sides⟩)
    (d__law_sides : PySem.W.codeIn K cd__law_sides "_law_sides" = true)
    (k__law_sides : PySem.W.keepIn K (.ref f__law_sides) = true)
    (a__law_far : PySem.W.nsIn K mainGlobals "_law_far" = some (some (.ref f__law_far)))
    (l__law_far : K.lookup f__law_far = some ⟨oc__law_far, od__law_far, .func (PySem.W.fnOf "_law_far" "_law_far" (defArgs s__law_far) (defBody s__law_far) (defScope s__law_far) .none kV__law_far dc__law_far pm__law_far an__law_far cd__law_far ct__law_far), sl__law_far⟩)
    (d__law_far : PySem.W.codeIn K cd__law_far "_law_far" = true)
    (k__law_far : PySem.W.keepIn K (.ref f__law_far) = true)
    (a__law_floor : PySem.W.nsIn K mainGlobals "_law_floor" = some (some (.ref f__law_floor)))
    (l__law_floor : K.lookup f__law_floor = some ⟨oc__law_floor, od__law_floor, .func (PySem.W.fnOf "_law_floor" "_law_floor" (defArgs s__law_floor) (defBody s__law_floor) (defScope s__law_floor) .none kV__law_floor dc__law_floor pm__law_floor an__law_floor cd__law_floor ct__law_floor), sl__law_floor⟩)
    (d__law_floor : PySem.W.codeIn K cd__law_floor "_law_floor" = true)
    (k__law_floor : PySem.W.keepIn K (.ref f__law_floor) = true)
    (a_check_size : PySem.W.nsIn K mainGlobals "check_size" = some (some (.ref f_check_size)))
    (l_check_size : K.lookup f_check_size = some ⟨oc_check_size, od_check_size, .func (PySem.W.fnOf "check_size" "check_size" (defArgs s_check_size) (defBody s_check_size) (defScope s_check_size) .none kV_check_size dc_check_size pm_check_size an_check_size cd_check_size ct_check_size), sl_check_size⟩)
    (d_check_size : PySem.W.codeIn K cd_check_size "check_size" = true)
    (k_check_size : PySem.W.keepIn K (.ref f_check_size) = true)
    (a_Floor_around : PySem.W.findIn K (.ref c_Floor) "around" = some (some (.ref f_Floor_around)))
    (i_Floor_around : PySem.W.isFn K (.ref f_Floor_around) = true)
    (l_Floor_around : K.lookup f_Floor_around = some ⟨oc_Floor_around, od_Floor_around, .func (PySem.W.fnOf "around" "Floor.around" (defArgs s_Floor_around) (defBody s_Floor_around) (defScope s_Floor_around) .none kV_Floor_around dc_Floor_around pm_Floor_around an_Floor_around cd_Floor_around ct_Floor_around), sl_Floor_around⟩)
    (d_Floor_around : PySem.W.codeIn K cd_Floor_around "Floor.around" = true)
    (k_Floor_around : PySem.W.keepIn K (.ref f_Floor_around) = true)
    (a__law_rings : PySem.W.nsIn K mainGlobals "_law_rings" = some (some (.ref f__law_rings)))
    (l__law_rings : K.lookup f__law_rings = some ⟨oc__law_rings, od__law_rings, .func (PySem.W.fnOf "_law_rings" "_law_rings" (defArgs s__law_rings) (defBody s__law_rings) (defScope s__law_rings) .none kV__law_rings dc__law_rings pm__law_rings an__law_rings cd__law_rings ct__law_rings), sl__law_rings⟩)
    (d__law_rings : PySem.W.codeIn K cd__law_rings "_law_rings" = true)
    (k__law_rings : PySem.W.keepIn K (.ref f__law_rings) = true)
    (a__law_asked : PySem.W.nsIn K mainGlobals "_law_asked" = some (some (.ref f__law_asked)))
    (l__law_asked : K.lookup f__law_asked = some ⟨oc__law_asked, od__law_asked, .func (PySem.W.fnOf "_law_asked" "_law_asked" (defArgs s__law_asked) (defBody s__law_asked) (defScope s__law_asked) .none kV__law_asked dc__law_asked pm__law_asked an__law_asked cd__law_asked ct__law_asked), sl__law_asked⟩)
    (d__law_asked : PySem.W.codeIn K cd__law_asked "_law_asked" = true)
    (k__law_asked : PySem.W.keepIn K (.ref f__law_asked) = true)
    (a__law_refusals : PySem.W.nsIn K mainGlobals "_law_refusals" = some (some (.ref f__law_refusals)))
    (l__law_refusals : K.lookup f__law_refusals = some ⟨oc__law_refusals, od__law_refusals, .func (PySem.W.fnOf "_law_refusals" "_law_refusals" (defArgs s__law_refusals) (defBody s__law_refusals) (defScope s__law_refusals) .none kV__law_refusals dc__law_refusals pm__law_refusals an__law_refusals cd__law_refusals ct__law_refusals), sl__law_refusals⟩)
    (d__law_refusals : PySem.W.codeIn K cd__law_refusals "_law_refusals" = true)
    (k__law_refusals : PySem.W.keepIn K (.ref f__law_refusals) = true)
    (a_law : PySem.W.nsIn K mainGlobals "law" = some (some (.ref f_law)))
    (l_law : K.lookup f_law = some ⟨oc_law, od_law, .func (PySem.W.fnOf "law" "law" (defArgs s_law) (defBody s_law) (defScope s_law) .none kV_law dc_law pm_law an_law cd_law ct_law), sl_law⟩)
    (d_law : PySem.W.codeIn K cd_law "law" = true)
    (k_law : PySem.W.keepIn K (.ref f_law) = true)
    : ∃ fd : FuncData, (∀ (s : Shared) (v : Value), BindsTo s fd ⟨[v], []⟩ [("script", v)]) ∧ ∀ base : Heap, K.In base → base.Ns mainGlobals mg → FnOk P w K mg base (L2.CX P w) 12 fa fd ["script"] (spTop K) := by
  have e := hfa.symm.trans (PySem.W.mg_of X G a_law)
  cases e
  have M : ∀ {n : Str} {v : Value}, PySem.W.nsIn K mainGlobals n = some (some v) → mg n = some v := fun h => PySem.W.mg_of X G h
  have O : ∀ {n : Str}, PySem.W.nsIn K mainGlobals n = some none → mg n = none := fun h => PySem.W.mg_none_of X G h
  have T : Txt (⟨K, c_FloorError, c_BadNumber, c_BadPoint, c_BadCorner, c_Barred, c_NoCorner, c_BadSize, c_Root, c_Floor⟩ : Zs) mg :=
    { n_isinstance := O r_isinstance
      n_list := O r_list
      n_int := O r_int
      n_range := O r_range
      n_len := O r_len
      n_abs := O r_abs
      n_all := O r_all
      n_tuple := O r_tuple
      n_bool := O r_bool
      n_enumerate := O r_enumerate
      n_sorted := O r_sorted
      g_gcd := M r_gcd
      g_lcm := M r_lcm
      g_FloorError := M r_FloorError
      g_BadNumber := M r_BadNumber
      g_BadPoint := M r_BadPoint
      g_BadCorner := M r_BadCorner
      g_Barred := M r_Barred
      g_NoCorner := M r_NoCorner
      g_BadSize := M r_BadSize
      g_Root := M r_Root
      g_Floor := M r_Floor
      ki := ki_mk ⟨r_pg, r_hd, r_po, r_sa⟩ r_ca r_hm r_ic r_tc r_s1 r_s2
      nf_top := r_nt, nf_root := r_nr, nf_bottom := r_nb
      ow := ⟨r_sf, r_s1⟩
      ra := ⟨_, r_ra⟩
      rs := ⟨_, r_rs⟩
      rm := ⟨_, r_rm⟩
      c_Floor := ⟨o_pg_Floor, o_hd_Floor, o_po_Floor, o_sa_Floor⟩
      nf_Floor_shift := o_nf_Floor_shift
      nf_Floor__gauge := o_nf_Floor__gauge
      x_BadNumber := ⟨⟨nmBadNumber, qBadNumber, NBadNumber, bsBadNumber, _, snBadNumber, subBadNumber, abBadNumber, colBadNumber, ddBadNumber, m0BadNumber, m1BadNumber, m2BadNumber, m3BadNumber, m5BadNumber, e_L_BadNumber, rfl⟩, e_sa_BadNumber, e_e_BadNumber, e_t_BadNumber, e_k_BadNumber⟩
      xn_BadNumber := e_n_BadNumber
      xf_BadNumber := ⟨e_ga_BadNumber, e_gg_BadNumber, e_e_BadNumber, e_hd_BadNumber⟩
      xm_BadNumber := exm_mk e_e_BadNumber e_ic_BadNumber e_t_BadNumber e_s_BadNumber
      x_BadPoint := ⟨⟨nmBadPoint, qBadPoint, NBadPoint, bsBadPoint, _, snBadPoint, subBadPoint, abBadPoint, colBadPoint, ddBadPoint, m0BadPoint, m1BadPoint, m2BadPoint, m3BadPoint, m5BadPoint, e_L_BadPoint, rfl⟩, e_sa_BadPoint, e_e_BadPoint, e_t_BadPoint, e_k_BadPoint⟩
      xn_BadPoint := e_n_BadPoint
      xf_BadPoint := ⟨e_ga_BadPoint, e_gg_BadPoint, e_e_BadPoint, e_hd_BadPoint⟩
      xm_BadPoint := exm_mk e_e_BadPoint e_ic_BadPoint e_t_BadPoint e_s_BadPoint
      x_BadCorner := ⟨⟨nmBadCorner, qBadCorner, NBadCorner, bsBadCorner, _, snBadCorner, subBadCorner, abBadCorner, colBadCorner, ddBadCorner, m0BadCorner, m1BadCorner, m2BadCorner, m3BadCorner, m5BadCorner, e_L_BadCorner, rfl⟩, e_sa_BadCorner, e_e_BadCorner, e_t_BadCorner, e_k_BadCorner⟩
      xn_BadCorner := e_n_BadCorner
      xf_BadCorner := ⟨e_ga_BadCorner, e_gg_BadCorner, e_e_BadCorner, e_hd_BadCorner⟩
      xm_BadCorner := exm_mk e_e_BadCorner e_ic_BadCorner e_t_BadCorner e_s_BadCorner
      x_Barred := ⟨⟨nmBarred, qBarred, NBarred, bsBarred, _, snBarred, subBarred, abBarred, colBarred, ddBarred, m0Barred, m1Barred, m2Barred, m3Barred, m5Barred, e_L_Barred, rfl⟩, e_sa_Barred, e_e_Barred, e_t_Barred, e_k_Barred⟩
      xn_Barred := e_n_Barred
      xf_Barred := ⟨e_ga_Barred, e_gg_Barred, e_e_Barred, e_hd_Barred⟩
      xm_Barred := exm_mk e_e_Barred e_ic_Barred e_t_Barred e_s_Barred
      x_NoCorner := ⟨⟨nmNoCorner, qNoCorner, NNoCorner, bsNoCorner, _, snNoCorner, subNoCorner, abNoCorner, colNoCorner, ddNoCorner, m0NoCorner, m1NoCorner, m2NoCorner, m3NoCorner, m5NoCorner, e_L_NoCorner, rfl⟩, e_sa_NoCorner, e_e_NoCorner, e_t_NoCorner, e_k_NoCorner⟩
      xn_NoCorner := e_n_NoCorner
      xf_NoCorner := ⟨e_ga_NoCorner, e_gg_NoCorner, e_e_NoCorner, e_hd_NoCorner⟩
      xm_NoCorner := exm_mk e_e_NoCorner e_ic_NoCorner e_t_NoCorner e_s_NoCorner
      x_BadSize := ⟨⟨nmBadSize, qBadSize, NBadSize, bsBadSize, _, snBadSize, subBadSize, abBadSize, colBadSize, ddBadSize, m0BadSize, m1BadSize, m2BadSize, m3BadSize, m5BadSize, e_L_BadSize, rfl⟩, e_sa_BadSize, e_e_BadSize, e_t_BadSize, e_k_BadSize⟩
      xn_BadSize := e_n_BadSize
      xf_BadSize := ⟨e_ga_BadSize, e_gg_BadSize, e_e_BadSize, e_hd_BadSize⟩
      xm_BadSize := exm_mk e_e_BadSize e_ic_BadSize e_t_BadSize e_s_BadSize
      xo_BadCorner_NoCorner := exm_no e_e_NoCorner e_ic_NoCorner e_t_NoCorner e_o_BadCorner_NoCorner
      xo_BadCorner_BadSize := exm_no e_e_BadSize e_ic_BadSize e_t_BadSize e_o_BadCorner_BadSize
      xo_NoCorner_BadCorner := exm_no e_e_BadCorner e_ic_BadCorner e_t_BadCorner e_o_NoCorner_BadCorner
      xo_NoCorner_BadSize := exm_no e_e_BadSize e_ic_BadSize e_t_BadSize e_o_NoCorner_BadSize
      xo_BadSize_BadCorner := exm_no e_e_BadCorner e_ic_BadCorner e_t_BadCorner e_o_BadSize_BadCorner
      xo_BadSize_NoCorner := exm_no e_e_NoCorner e_ic_NoCorner e_t_NoCorner e_o_BadSize_NoCorner
    }
  have F_is_integral := fun_mk (st := s_is_integral) l_is_integral d_is_integral k_is_integral
  have B_is_integral := F_is_integral.binds (ps := ["thing"]) fun _ _ _ _ _ _ us hl => match us, hl with | [_], _ => rfl
  have F_BadPoint_init := fun_mk (st := s_BadPoint_init) l_BadPoint_init d_BadPoint_init k_BadPoint_init
  have B_BadPoint_init := F_BadPoint_init.binds (ps := ["self", "point"]) fun _ _ _ _ _ _ us hl => match us, hl with | [_, _], _ => rfl
  have F_BadCorner_init := fun_mk (st := s_BadCorner_init) l_BadCorner_init d_BadCorner_init k_BadCorner_init
  have B_BadCorner_init := F_BadCorner_init.binds (ps := ["self", "corner"]) fun _ _ _ _ _ _ us hl => match us, hl with | [_, _], _ => rfl
  have F_Barred_init := fun_mk (st := s_Barred_init) l_Barred_init d_Barred_init k_Barred_init
  have B_Barred_init := F_Barred_init.binds (ps := ["self", "direction"]) fun _ _ _ _ _ _ us hl => match us, hl with | [_, _], _ => rfl
  have F_NoCorner_init := fun_mk (st := s_NoCorner_init) l_NoCorner_init d_NoCorner_init k_NoCorner_init
  have B_NoCorner_init := F_NoCorner_init.binds (ps := ["self", "corner"]) fun _ _ _ _ _ _ us hl => match us, hl with | [_, _], _ => rfl
  have F_BadSize_init := fun_mk (st := s_BadSize_init) l_BadSize_init d_BadSize_init k_BadSize_init
  have B_BadSize_init := F_BadSize_init.binds (ps := ["self", "size"]) fun _ _ _ _ _ _ us hl => match us, hl with | [_, _], _ => rfl
  have F_BadNumber_init := fun_mk (st := s_BadNumber_init) l_BadNumber_init d_BadNumber_init k_BadNumber_init
  have B_BadNumber_init := F_BadNumber_init.binds (ps := ["self", "value"]) fun _ _ _ _ _ _ us hl => match us, hl with | [_, _], _ => rfl
  have F_Root_init := fun_mk (st := s_Root_init) l_Root_init d_Root_init k_Root_init
  have B_Root_init := F_Root_init.binds (ps := ["self", "top", "root", "bottom"]) fun _ _ _ _ _ _ us hl => match us, hl with | [_, _, _, _], _ => rfl
  have F_Root_eq := fun_mk (st := s_Root_eq) l_Root_eq d_Root_eq k_Root_eq
  have B_Root_eq := F_Root_eq.binds (ps := ["self", "other"]) fun _ _ _ _ _ _ us hl => match us, hl with | [_, _], _ => rfl
  have F_Root_neg := fun_mk (st := s_Root_neg) l_Root_neg d_Root_neg k_Root_neg
  have B_Root_neg := F_Root_neg.binds (ps := ["self"]) fun _ _ _ _ _ _ us hl => match us, hl with | [_], _ => rfl
  have F_is_number := fun_mk (st := s_is_number) l_is_number d_is_number k_is_number
  have B_is_number := F_is_number.binds (ps := ["thing"]) fun _ _ _ _ _ _ us hl => match us, hl with | [_], _ => rfl
  have F_as_root := fun_mk (st := s_as_root) l_as_root d_as_root k_as_root
  have B_as_root := F_as_root.binds (ps := ["number"]) fun _ _ _ _ _ _ us hl => match us, hl with | [_], _ => rfl
  have F_surd_sign := fun_mk (st := s_surd_sign) l_surd_sign d_surd_sign k_surd_sign
  have B_surd_sign := F_surd_sign.binds (ps := ["top", "root"]) fun _ _ _ _ _ _ us hl => match us, hl with | [_, _], _ => rfl
  have F_Root_add := fun_mk (st := s_Root_add) l_Root_add d_Root_add k_Root_add
  have B_Root_add := F_Root_add.binds (ps := ["self", "other"]) fun _ _ _ _ _ _ us hl => match us, hl with | [_, _], _ => rfl
  have F_Root_sub := fun_mk (st := s_Root_sub) l_Root_sub d_Root_sub k_Root_sub
  have B_Root_sub := F_Root_sub.binds (ps := ["self", "other"]) fun _ _ _ _ _ _ us hl => match us, hl with | [_, _], _ => rfl
  have F_Root_mul := fun_mk (st := s_Root_mul) l_Root_mul d_Root_mul k_Root_mul
  have B_Root_mul := F_Root_mul.binds (ps := ["self", "other"]) fun _ _ _ _ _ _ us hl => match us, hl with | [_, _], _ => rfl
  have F_Root_radd := fun_mk (st := s_Root_radd) l_Root_radd d_Root_radd k_Root_radd
  have B_Root_radd := F_Root_radd.binds (ps := ["self", "other"]) fun _ _ _ _ _ _ us hl => match us, hl with | [_, _], _ => rfl
  have F_Root_rmul := fun_mk (st := s_Root_rmul) l_Root_rmul d_Root_rmul k_Root_rmul
  have B_Root_rmul := F_Root_rmul.binds (ps := ["self", "other"]) fun _ _ _ _ _ _ us hl => match us, hl with | [_, _], _ => rfl
  have F_Root_rsub := fun_mk (st := s_Root_rsub) l_Root_rsub d_Root_rsub k_Root_rsub
  have B_Root_rsub := F_Root_rsub.binds (ps := ["self", "other"]) fun _ _ _ _ _ _ us hl => match us, hl with | [_, _], _ => rfl
  have F_Root_less := fun_mk (st := s_Root_less) l_Root_less d_Root_less k_Root_less
  have B_Root_less := F_Root_less.binds (ps := ["self", "number"]) fun _ _ _ _ _ _ us hl => match us, hl with | [_, _], _ => rfl
  have F__law_start := fun_mk (st := s__law_start) l__law_start d__law_start k__law_start
  have B__law_start := F__law_start.binds (ps := ["script"]) fun _ _ _ _ _ _ us hl => match us, hl with | [_], _ => rfl
  have F__law_mixed := fun_mk (st := s__law_mixed) l__law_mixed d__law_mixed k__law_mixed
  have B__law_mixed := F__law_mixed.binds (ps := ["cell", "count"]) fun _ _ _ _ _ _ us hl => match us, hl with | [_, _], _ => rfl
  have F__law_draw := fun_mk (st := s__law_draw) l__law_draw d__law_draw k__law_draw
  have B__law_draw := F__law_draw.binds (ps := ["state", "many"]) fun _ _ _ _ _ _ us hl => match us, hl with | [_, _], _ => rfl
  have F__law_between := fun_mk (st := s__law_between) l__law_between d__law_between k__law_between
  have B__law_between := F__law_between.binds (ps := ["state", "least", "most"]) fun _ _ _ _ _ _ us hl => match us, hl with | [_, _, _], _ => rfl
  have F__law_plus := fun_mk (st := s__law_plus) l__law_plus d__law_plus k__law_plus
  have B__law_plus := F__law_plus.binds (ps := ["one", "other"]) fun _ _ _ _ _ _ us hl => match us, hl with | [_, _], _ => rfl
  have F__law_minus := fun_mk (st := s__law_minus) l__law_minus d__law_minus k__law_minus
  have B__law_minus := F__law_minus.binds (ps := ["one", "other"]) fun _ _ _ _ _ _ us hl => match us, hl with | [_, _], _ => rfl
  have F__law_sign := fun_mk (st := s__law_sign) l__law_sign d__law_sign k__law_sign
  have B__law_sign := F__law_sign.binds (ps := ["number"]) fun _ _ _ _ _ _ us hl => match us, hl with | [_], _ => rfl
  have F_is_corner := fun_mk (st := s_is_corner) l_is_corner d_is_corner k_is_corner
  have B_is_corner := F_is_corner.binds (ps := ["thing"]) fun _ _ _ _ _ _ us hl => match us, hl with | [_], _ => rfl
  have F_check_corner := fun_mk (st := s_check_corner) l_check_corner d_check_corner k_check_corner
  have B_check_corner := F_check_corner.binds (ps := ["corner"]) fun _ _ _ _ _ _ us hl => match us, hl with | [_], _ => rfl
  have F_step := fun_mk (st := s_step) l_step d_step k_step
  have B_step := F_step.binds (ps := ["corner", "direction", "many"]) fun _ _ _ _ _ _ us hl => match us, hl with | [_, _, _], _ => rfl
  have F__law_star := fun_mk (st := s__law_star) l__law_star d__law_star k__law_star
  have B__law_star := F__law_star.binds (ps := ["corner"]) fun _ _ _ _ _ _ us hl => match us, hl with | [_], _ => rfl
  have F__law_corner := fun_mk (st := s__law_corner) l__law_corner d__law_corner k__law_corner
  have B__law_corner := F__law_corner.binds (ps := ["state"]) fun _ _ _ _ _ _ us hl => match us, hl with | [_], _ => rfl
  have F__law_is_corner := fun_mk (st := s__law_is_corner) l__law_is_corner d__law_is_corner k__law_is_corner
  have B__law_is_corner := F__law_is_corner.binds (ps := ["thing"]) fun _ _ _ _ _ _ us hl => match us, hl with | [_], _ => rfl
  have F__law_bad_corner := fun_mk (st := s__law_bad_corner) l__law_bad_corner d__law_bad_corner k__law_bad_corner
  have B__law_bad_corner := F__law_bad_corner.binds (ps := ["state", "corner"]) fun _ _ _ _ _ _ us hl => match us, hl with | [_, _], _ => rfl
  have F_is_point := fun_mk (st := s_is_point) l_is_point d_is_point k_is_point
  have B_is_point := F_is_point.binds (ps := ["thing"]) fun _ _ _ _ _ _ us hl => match us, hl with | [_], _ => rfl
  have F_as_roots := fun_mk (st := s_as_roots) l_as_roots d_as_roots k_as_roots
  have B_as_roots := F_as_roots.binds (ps := ["point"]) fun _ _ _ _ _ _ us hl => match us, hl with | [_], _ => rfl
  have F__law_given := fun_mk (st := s__law_given) l__law_given d__law_given k__law_given
  have B__law_given := F__law_given.binds (ps := ["number"]) fun _ _ _ _ _ _ us hl => match us, hl with | [_], _ => rfl
  have F_check_point := fun_mk (st := s_check_point) l_check_point d_check_point k_check_point
  have B_check_point := F_check_point.binds (ps := ["point"]) fun _ _ _ _ _ _ us hl => match us, hl with | [_], _ => rfl
  have F_is_half := fun_mk (st := s_is_half) l_is_half d_is_half k_is_half
  have B_is_half := F_is_half.binds (ps := ["top", "bottom"]) fun _ _ _ _ _ _ us hl => match us, hl with | [_, _], _ => rfl
  have F_bars_evenly := fun_mk (st := s_bars_evenly) l_bars_evenly d_bars_evenly k_bars_evenly
  have B_bars_evenly := F_bars_evenly.binds (ps := ["number"]) fun _ _ _ _ _ _ us hl => match us, hl with | [_], _ => rfl
  have F_bars_oddly := fun_mk (st := s_bars_oddly) l_bars_oddly d_bars_oddly k_bars_oddly
  have B_bars_oddly := F_bars_oddly.binds (ps := ["number"]) fun _ _ _ _ _ _ us hl => match us, hl with | [_], _ => rfl
  have F_barred := fun_mk (st := s_barred) l_barred d_barred k_barred
  have B_barred := F_barred.binds (ps := ["shift"]) fun _ _ _ _ _ _ us hl => match us, hl with | [_], _ => rfl
  have F_gauge_of := fun_mk (st := s_gauge_of) l_gauge_of d_gauge_of k_gauge_of
  have B_gauge_of := F_gauge_of.binds (ps := ["shift"]) fun _ _ _ _ _ _ us hl => match us, hl with | [_], _ => rfl
  have F_beside := fun_mk (st := s_beside) l_beside d_beside k_beside
  have B_beside := F_beside.binds (ps := ["top", "root", "edge_top", "edge_root"]) fun _ _ _ _ _ _ us hl => match us, hl with | [_, _, _, _], _ => rfl
  have F_in_window := fun_mk (st := s_in_window) l_in_window d_in_window k_in_window
  have B_in_window := F_in_window.binds (ps := ["gauge", "corner"]) fun _ _ _ _ _ _ us hl => match us, hl with | [_, _], _ => rfl
  have F_Floor_init := fun_mk (st := s_Floor_init) l_Floor_init d_Floor_init k_Floor_init
  have B_Floor_init := F_Floor_init.binds (ps := ["self", "shift"]) fun _ _ _ _ _ _ us hl => match us, hl with | [_, _], _ => rfl
  have F_Floor_has_corner := fun_mk (st := s_Floor_has_corner) l_Floor_has_corner d_Floor_has_corner k_Floor_has_corner
  have B_Floor_has_corner := F_Floor_has_corner.binds (ps := ["self", "corner"]) fun _ _ _ _ _ _ us hl => match us, hl with | [_, _], _ => rfl
  have F__law_lines := fun_mk (st := s__law_lines) l__law_lines d__law_lines k__law_lines
  have B__law_lines := F__law_lines.binds (ps := ["x", "y"]) fun _ _ _ _ _ _ us hl => match us, hl with | [_, _], _ => rfl
  have F__law_inside := fun_mk (st := s__law_inside) l__law_inside d__law_inside k__law_inside
  have B__law_inside := F__law_inside.binds (ps := ["x", "y"]) fun _ _ _ _ _ _ us hl => match us, hl with | [_, _], _ => rfl
  have F__law_is_odd_half := fun_mk (st := s__law_is_odd_half) l__law_is_odd_half d__law_is_odd_half k__law_is_odd_half
  have B__law_is_odd_half := F__law_is_odd_half.binds (ps := ["top", "bottom"]) fun _ _ _ _ _ _ us hl => match us, hl with | [_, _], _ => rfl
  have F__law_barred := fun_mk (st := s__law_barred) l__law_barred d__law_barred k__law_barred
  have B__law_barred := F__law_barred.binds (ps := ["x", "y"]) fun _ _ _ _ _ _ us hl => match us, hl with | [_, _], _ => rfl
  have F__law_spot := fun_mk (st := s__law_spot) l__law_spot d__law_spot k__law_spot
  have B__law_spot := F__law_spot.binds (ps := ["state"]) fun _ _ _ _ _ _ us hl => match us, hl with | [_], _ => rfl
  have F__law_shift := fun_mk (st := s__law_shift) l__law_shift d__law_shift k__law_shift
  have B__law_shift := F__law_shift.binds (ps := ["corner", "spot"]) fun _ _ _ _ _ _ us hl => match us, hl with | [_, _], _ => rfl
  have F__law_has := fun_mk (st := s__law_has) l__law_has d__law_has k__law_has
  have B__law_has := F__law_has.binds (ps := ["shift", "corner"]) fun _ _ _ _ _ _ us hl => match us, hl with | [_, _], _ => rfl
  have F_Floorways := fun_mk (st := s_Floorways) l_Floorways d_Floorways k_Floorways
  have B_Floorways := F_Floorways.binds (ps := ["self", "corner"]) fun _ _ _ _ _ _ us hl => match us, hl with | [_, _], _ => rfl
  have F_Floor_sides := fun_mk (st := s_Floor_sides) l_Floor_sides d_Floor_sides k_Floor_sides
  have B_Floor_sides := F_Floor_sides.binds (ps := ["self", "corner"]) fun _ _ _ _ _ _ us hl => match us, hl with | [_, _], _ => rfl
  have F__law_step := fun_mk (st := s__law_step) l__law_step d__law_step k__law_step
  have B__law_step := F__law_step.binds (ps := ["corner", "way", "many"]) fun _ _ _ _ _ _ us hl => match us, hl with | [_, _, _], _ => rfl
  have F__law_sides := fun_mk (st := s__law_sides) l__law_sides d__law_sides k__law_sides
  have B__law_sides := F__law_sides.binds (ps := ["shift", "corner"]) fun _ _ _ _ _ _ us hl => match us, hl with | [_, _], _ => rfl
  have F__law_far := fun_mk (st := s__law_far) l__law_far d__law_far k__law_far
  have B__law_far := F__law_far.binds (ps := ["state", "corner"]) fun _ _ _ _ _ _ us hl => match us, hl with | [_, _], _ => rfl
  have F__law_floor := fun_mk (st := s__law_floor) l__law_floor d__law_floor k__law_floor
  have B__law_floor := F__law_floor.binds (ps := ["shift"]) fun _ _ _ _ _ _ us hl => match us, hl with | [_], _ => rfl
  have F_check_size := fun_mk (st := s_check_size) l_check_size d_check_size k_check_size
  have B_check_size := F_check_size.binds (ps := ["size", "most"]) fun _ _ _ _ _ _ us hl => match us, hl with | [_, _], _ => rfl
  have F_Floor_around := fun_mk (st := s_Floor_around) l_Floor_around d_Floor_around k_Floor_around
  have B_Floor_around := F_Floor_around.binds (ps := ["self", "corner", "steps"]) fun _ _ _ _ _ _ us hl => match us, hl with | [_, _, _], _ => rfl
  have F__law_rings := fun_mk (st := s__law_rings) l__law_rings d__law_rings k__law_rings
  have B__law_rings := F__law_rings.binds (ps := ["shift", "corner", "steps"]) fun _ _ _ _ _ _ us hl => match us, hl with | [_, _, _], _ => rfl
  have F__law_asked := fun_mk (st := s__law_asked) l__law_asked d__law_asked k__law_asked
  have B__law_asked := F__law_asked.binds (ps := ["floor", "corner", "steps"]) fun _ _ _ _ _ _ us hl => match us, hl with | [_, _, _], _ => rfl
  have F__law_refusals := fun_mk (st := s__law_refusals) l__law_refusals d__law_refusals k__law_refusals
  have B__law_refusals := F__law_refusals.binds (ps := ["state", "floor", "shift", "corner"]) fun _ _ _ _ _ _ us hl => match us, hl with | [_, _, _, _], _ => rfl
  have F_law := fun_mk (st := s_law) l_law d_law k_law
  refine ⟨PySem.W.fnOf "law" "law" (defArgs s_law) (defBody s_law) (defScope s_law) .none kV_law dc_law pm_law an_law cd_law ct_law, fun s v => .of_eq rfl, fun base _ _ => ?_⟩
  have h_is_integral := ok_is_integral (P := P) (w := w) (base := base) T  ⟨_, _, F_is_integral, B_is_integral, M a_is_integral⟩
  have h_BadPoint := ok_BadPoint_init (P := P) (w := w) (base := base) T  ⟨_, _, F_BadPoint_init, B_BadPoint_init, M r_BadPoint, a_BadPoint_init, t_BadPoint_init⟩
  have h_BadCorner := ok_BadCorner_init (P := P) (w := w) (base := base) T  ⟨_, _, F_BadCorner_init, B_BadCorner_init, M r_BadCorner, a_BadCorner_init, t_BadCorner_init⟩
  have h_Barred := ok_Barred_init (P := P) (w := w) (base := base) T  ⟨_, _, F_Barred_init, B_Barred_init, M r_Barred, a_Barred_init, t_Barred_init⟩
  have h_NoCorner := ok_NoCorner_init (P := P) (w := w) (base := base) T  ⟨_, _, F_NoCorner_init, B_NoCorner_init, M r_NoCorner, a_NoCorner_init, t_NoCorner_init⟩
  have h_BadSize := ok_BadSize_init (P := P) (w := w) (base := base) T  ⟨_, _, F_BadSize_init, B_BadSize_init, M r_BadSize, a_BadSize_init, t_BadSize_init⟩
  have h_BadNumber := ok_BadNumber_init (P := P) (w := w) (base := base) T  ⟨_, _, F_BadNumber_init, B_BadNumber_init, M r_BadNumber, a_BadNumber_init, t_BadNumber_init⟩
  have h_Root := ok_Root_init (P := P) (w := w) (base := base) T h_BadNumber h_is_integral ⟨_, _, F_Root_init, B_Root_init, ⟨mk_Root_init, a_Root_init, i_Root_init, kc_Root_init⟩, M r_Root⟩
  have h_Root_eq := ok_Root_eq (P := P) (w := w) (base := base) T h_is_integral ⟨_, _, F_Root_eq, B_Root_eq, ⟨a_Root_eq, i_Root_eq, k_Root_eq⟩⟩
  have h_Root_neg := ok_Root_neg (P := P) (w := w) (base := base) T h_Root ⟨_, _, F_Root_neg, B_Root_neg, ⟨a_Root_neg, i_Root_neg, k_Root_neg⟩⟩
  have h_is_number := ok_is_number (P := P) (w := w) (base := base) T h_is_integral ⟨_, _, F_is_number, B_is_number, M a_is_number⟩
  have h_as_root := ok_as_root (P := P) (w := w) (base := base) T h_Root ⟨_, _, F_as_root, B_as_root, M a_as_root⟩
  have h_surd_sign := ok_surd_sign (P := P) (w := w) (base := base) T  ⟨_, _, F_surd_sign, B_surd_sign, M a_surd_sign⟩
  have h_Root_add := ok_Root_add (P := P) (w := w) (base := base) T h_Root h_as_root h_is_number ⟨_, _, F_Root_add, B_Root_add, ⟨a_Root_add, i_Root_add, k_Root_add⟩⟩
  have h_Root_sub := ok_Root_sub (P := P) (w := w) (base := base) T h_Root h_as_root h_is_number ⟨_, _, F_Root_sub, B_Root_sub, ⟨a_Root_sub, i_Root_sub, k_Root_sub⟩⟩
  have h_Root_mul := ok_Root_mul (P := P) (w := w) (base := base) T h_Root h_as_root h_is_number ⟨_, _, F_Root_mul, B_Root_mul, ⟨a_Root_mul, i_Root_mul, k_Root_mul⟩⟩
  have h_Root_radd := ok_Root_radd (P := P) (w := w) (base := base) T h_Root_add ⟨_, _, F_Root_radd, B_Root_radd, ⟨a_Root_radd, i_Root_radd, k_Root_radd⟩⟩
  have h_Root_rmul := ok_Root_rmul (P := P) (w := w) (base := base) T h_Root_mul ⟨_, _, F_Root_rmul, B_Root_rmul, ⟨a_Root_rmul, i_Root_rmul, k_Root_rmul⟩⟩
  have h_Root_rsub := ok_Root_rsub (P := P) (w := w) (base := base) T h_Root_add h_Root_neg ⟨_, _, F_Root_rsub, B_Root_rsub, ⟨a_Root_rsub, i_Root_rsub, k_Root_rsub⟩⟩
  have h_Root_less := ok_Root_less (P := P) (w := w) (base := base) T h_surd_sign h_as_root h_is_number h_BadNumber ⟨_, _, F_Root_less, B_Root_less, ⟨a_Root_less, i_Root_less, k_Root_less⟩⟩
  have h__law_start := ok__law_start (P := P) (w := w) (base := base) T  ⟨_, _, F__law_start, B__law_start, M a__law_start⟩
  have h__law_mixed := ok__law_mixed (P := P) (w := w) (base := base) T  ⟨_, _, F__law_mixed, B__law_mixed, M a__law_mixed⟩
  have h__law_draw := ok__law_draw (P := P) (w := w) (base := base) T h__law_mixed ⟨_, _, F__law_draw, B__law_draw, M a__law_draw⟩
  have h__law_between := ok__law_between (P := P) (w := w) (base := base) T h__law_draw ⟨_, _, F__law_between, B__law_between, M a__law_between⟩
  have h__law_plus := ok__law_plus (P := P) (w := w) (base := base) T  ⟨_, _, F__law_plus, B__law_plus, M a__law_plus⟩
  have h__law_minus := ok__law_minus (P := P) (w := w) (base := base) T  ⟨_, _, F__law_minus, B__law_minus, M a__law_minus⟩
  have h__law_sign := ok__law_sign (P := P) (w := w) (base := base) T  ⟨_, _, F__law_sign, B__law_sign, M a__law_sign⟩
  have h_is_corner := ok_is_corner (P := P) (w := w) (base := base) T h_is_integral ⟨_, _, F_is_corner, B_is_corner, M a_is_corner⟩
  have h_check_corner := ok_check_corner (P := P) (w := w) (base := base) T h_is_corner h_BadCorner ⟨_, _, F_check_corner, B_check_corner, M a_check_corner⟩
  have h_step := ok_step (P := P) (w := w) (base := base) T  ⟨_, _, F_step, B_step, M a_step⟩
  have h__law_star := ok__law_star (P := P) (w := w) (base := base) T  ⟨_, _, F__law_star, B__law_star, M a__law_star⟩
  have h__law_corner := ok__law_corner (P := P) (w := w) (base := base) T h__law_between h__law_draw ⟨_, _, F__law_corner, B__law_corner, M a__law_corner⟩
  have h__law_is_corner := ok__law_is_corner (P := P) (w := w) (base := base) T  ⟨_, _, F__law_is_corner, B__law_is_corner, M a__law_is_corner⟩
  have h__law_bad_corner := ok__law_bad_corner (P := P) (w := w) (base := base) T h__law_draw ⟨_, _, F__law_bad_corner, B__law_bad_corner, M a__law_bad_corner⟩
  have h_is_point := ok_is_point (P := P) (w := w) (base := base) T h_is_number ⟨_, _, F_is_point, B_is_point, M a_is_point⟩
  have h_as_roots := ok_as_roots (P := P) (w := w) (base := base) T h_as_root ⟨_, _, F_as_roots, B_as_roots, M a_as_roots⟩
  have h__law_given := ok__law_given (P := P) (w := w) (base := base) T h_Root ⟨_, _, F__law_given, B__law_given, M a__law_given⟩
  have h_check_point := ok_check_point (P := P) (w := w) (base := base) T h_is_point h_BadPoint ⟨_, _, F_check_point, B_check_point, M a_check_point⟩
  have h_is_half := ok_is_half (P := P) (w := w) (base := base) T  ⟨_, _, F_is_half, B_is_half, M a_is_half⟩
  have h_bars_evenly := ok_bars_evenly (P := P) (w := w) (base := base) T h_is_half ⟨_, _, F_bars_evenly, B_bars_evenly, M a_bars_evenly⟩
  have h_bars_oddly := ok_bars_oddly (P := P) (w := w) (base := base) T h_is_half ⟨_, _, F_bars_oddly, B_bars_oddly, M a_bars_oddly⟩
  have h_barred := ok_barred (P := P) (w := w) (base := base) T h_bars_oddly h_bars_evenly h_as_roots h_check_point h_Root_add h_Root_radd h_Root_sub h_Root_rsub ⟨_, _, F_barred, B_barred, M a_barred⟩
  have h_gauge_of := ok_gauge_of (P := P) (w := w) (base := base) T  ⟨_, _, F_gauge_of, B_gauge_of, M a_gauge_of⟩
  have h_beside := ok_beside (P := P) (w := w) (base := base) T h_surd_sign ⟨_, _, F_beside, B_beside, M a_beside⟩
  have h_in_window := ok_in_window (P := P) (w := w) (base := base) T h_beside ⟨_, _, F_in_window, B_in_window, M a_in_window⟩
  have h_Floor := ok_Floor_init (P := P) (w := w) (base := base) T h_gauge_of h_as_roots h_Barred h_barred h_check_point ⟨_, _, F_Floor_init, B_Floor_init, ⟨mk_Floor_init, a_Floor_init, i_Floor_init, kc_Floor_init⟩, M r_Floor⟩
  have h_Floor_has_corner := ok_Floor_has_corner (P := P) (w := w) (base := base) T h_in_window h_check_corner ⟨_, _, F_Floor_has_corner, B_Floor_has_corner, ⟨a_Floor_has_corner, i_Floor_has_corner, k_Floor_has_corner⟩⟩
  have h__law_lines := ok__law_lines (P := P) (w := w) (base := base) T h__law_minus h__law_plus ⟨_, _, F__law_lines, B__law_lines, M a__law_lines⟩
  have h__law_inside := ok__law_inside (P := P) (w := w) (base := base) T h__law_lines h__law_sign h__law_plus h__law_minus ⟨_, _, F__law_inside, B__law_inside, M a__law_inside⟩
  have h__law_is_odd_half := ok__law_is_odd_half (P := P) (w := w) (base := base) T  ⟨_, _, F__law_is_odd_half, B__law_is_odd_half, M a__law_is_odd_half⟩
  have h__law_barred := ok__law_barred (P := P) (w := w) (base := base) T h__law_lines h__law_is_odd_half ⟨_, _, F__law_barred, B__law_barred, M a__law_barred⟩
  have h__law_spot := ok__law_spot (P := P) (w := w) (base := base) T h__law_barred h__law_inside h__law_between h__law_draw ⟨_, _, F__law_spot, B__law_spot, M a__law_spot⟩
  have h__law_shift := ok__law_shift (P := P) (w := w) (base := base) T h__law_minus h__law_star ⟨_, _, F__law_shift, B__law_shift, M a__law_shift⟩
  have h__law_has := ok__law_has (P := P) (w := w) (base := base) T h__law_inside h__law_minus h__law_star ⟨_, _, F__law_has, B__law_has, M a__law_has⟩
  have h_Floorways := ok_Floorways (P := P) (w := w) (base := base) T h_in_window h_step ⟨_, _, F_Floorways, B_Floorways, ⟨a_Floorways, i_Floorways, k_Floorways⟩⟩
  have h_Floor_sides := ok_Floor_sides (P := P) (w := w) (base := base) T h_NoCorner h_Floorways h_Floor_has_corner ⟨_, _, F_Floor_sides, B_Floor_sides, ⟨a_Floor_sides, i_Floor_sides, k_Floor_sides⟩⟩
  have h__law_step := ok__law_step (P := P) (w := w) (base := base) T  ⟨_, _, F__law_step, B__law_step, M a__law_step⟩
  have h__law_sides := ok__law_sides (P := P) (w := w) (base := base) T h__law_has h__law_step ⟨_, _, F__law_sides, B__law_sides, M a__law_sides⟩
  have h__law_far := ok__law_far (P := P) (w := w) (base := base) T h__law_draw ⟨_, _, F__law_far, B__law_far, M a__law_far⟩
  have h__law_floor := ok__law_floor (P := P) (w := w) (base := base) T h_Floor h__law_given ⟨_, _, F__law_floor, B__law_floor, M a__law_floor⟩
  have h_check_size := ok_check_size (P := P) (w := w) (base := base) T h_is_integral h_BadSize ⟨_, _, F_check_size, B_check_size, M a_check_size⟩
  have h_Floor_around := ok_Floor_around (P := P) (w := w) (base := base) T h_step h_check_size h_NoCorner h_Floorways h_Floor_has_corner ⟨_, _, F_Floor_around, B_Floor_around, ⟨a_Floor_around, i_Floor_around, k_Floor_around⟩⟩
  have h__law_rings := ok__law_rings (P := P) (w := w) (base := base) T h__law_sides h__law_step ⟨_, _, F__law_rings, B__law_rings, M a__law_rings⟩
  have h__law_asked := ok__law_asked (P := P) (w := w) (base := base) T h_Floor_around ⟨_, _, F__law_asked, B__law_asked, M a__law_asked⟩
  have h__law_refusals := ok__law_refusals (P := P) (w := w) (base := base) T h__law_asked h__law_has h__law_far h__law_bad_corner h__law_draw ⟨_, _, F__law_refusals, B__law_refusals, M a__law_refusals⟩
  exact (ok_law (P := P) (w := w) (base := base) T h__law_is_corner h__law_rings h__law_refusals h__law_floor h__law_shift h__law_spot h__law_corner h__law_draw h__law_start h_Floor_around F_law).imp fun vs H Q E hs => hs
theorem walk {l : PySem.W.OpenLaw} {q : Program} {loose : List Str} {XP : (Str → Option Value) → Heap → Prop} {YP : World → Heap → Prop} {d : DefRec} {K : Params → PySem.W.Frag} (hn : l.most = some 63) (hdf : d.params.defaults = [])
    (hY : ∀ (w : World) (h : Heap), YP w h → (K w.params).In h)
    (F : ∀ (w : World) (mg : Str → Option Value) (fa : Addr) (h : Heap), (K w.params).In h → h.Ns mainGlobals mg → mg d.name = some (.ref fa) →
      ∃ fd : FuncData, (∀ (s : Shared) (u : Value), BindsTo s fd ⟨[u], []⟩ [("script", u)]) ∧ ∀ base : Heap, (K w.params).In base → base.Ns mainGlobals mg → FnOk l.prog w (K w.params) mg base (L2.CX l.prog w) 12 fa fd ["script"] (spTop (K w.params))) :
    PySem.W.WalkO q loose XP YP l.row.toRowW d [] (fun f vs => PySem.call f vs) :=
  L2.walk_of (n := 63) (k := 12) (x := "script") (CX := fun w => L2.CX l.prog w) (sp := fun w => spTop (K w.params)) hn (by decide) hdf ⟨rfl, by decide, by decide⟩ hY F (fun _ _ a ns _ _ hS => ⟨a, ns, rfl, hS, fun _ => rfl⟩) fun _ _ _ _ _ z => cx_no z
end L2.My
open PySem PySem.W PyProof.Rows in
set_option maxRecDepth 100000 in
set_option maxHeartbeats 0 in
theorem PySem.Challenge.cw_threetiles_k13_whole_around_by_steps_holds : PySem.Challenge.rw_threetiles_k13_whole_around_by_steps.Holds := by
  w_on; o_law; k_head; (case hw => w_witness2)
  k_fill
  refine L2.My.walk (l := PySem.Challenge.rw_threetiles_k13_whole_around_by_steps) rfl rfl (fun w h Y => PySem.W.kIn_of Y) ?F
  case F =>
    intro w mg fa h KX G hmg
    refine' L2.My.all_mk KX G hmg ?r_FloorError ?r_BadNumber ?r_BadPoint ?r_BadCorner ?r_Barred ?r_NoCorner ?r_BadSize ?r_Root ?r_Floor ?r_gcd ?r_lcm ?r_isinstance ?r_list ?r_int ?r_range ?r_len ?r_abs ?r_all ?r_tuple ?r_bool ?r_enumerate ?r_sorted ?r_pg ?r_hd ?r_po ?r_sa ?r_ca ?r_hm ?r_ic ?r_tc ?r_s1 ?r_s2 ?r_nt ?r_nr ?r_nb ?r_sf ?r_ra ?r_rs ?r_rm ?o_pg_Floor ?o_hd_Floor ?o_po_Floor ?o_sa_Floor ?o_nf_Floor_shift ?o_nf_Floor__gauge ?e_L_BadNumber ?e_sa_BadNumber ?e_e_BadNumber ?e_t_BadNumber ?e_k_BadNumber ?e_n_BadNumber ?e_ga_BadNumber ?e_gg_BadNumber ?e_hd_BadNumber ?e_ic_BadNumber ?e_s_BadNumber ?e_L_BadPoint ?e_sa_BadPoint ?e_e_BadPoint ?e_t_BadPoint ?e_k_BadPoint ?e_n_BadPoint ?e_ga_BadPoint ?e_gg_BadPoint ?e_hd_BadPoint ?e_ic_BadPoint ?e_s_BadPoint ?e_L_BadCorner ?e_sa_BadCorner ?e_e_BadCorner ?e_t_BadCorner ?e_k_BadCorner ?e_n_BadCorner ?e_ga_BadCorner ?e_gg_BadCorner ?e_hd_BadCorner ?e_ic_BadCorner ?e_s_BadCorner ?e_L_Barred ?e_sa_Barred ?e_e_Barred ?e_t_Barred ?e_k_Barred ?e_n_Barred ?e_ga_Barred ?e_gg_Barred ?e_hd_Barred ?e_ic_Barred ?e_s_Barred ?e_L_NoCorner ?e_sa_NoCorner ?e_e_NoCorner ?e_t_NoCorner ?e_k_NoCorner ?e_n_NoCorner ?e_ga_NoCorner ?e_gg_NoCorner ?e_hd_NoCorner ?e_ic_NoCorner ?e_s_NoCorner ?e_L_BadSize ?e_sa_BadSize ?e_e_BadSize ?e_t_BadSize ?e_k_BadSize ?e_n_BadSize ?e_ga_BadSize ?e_gg_BadSize ?e_hd_BadSize ?e_ic_BadSize ?e_s_BadSize ?e_o_BadCorner_NoCorner ?e_o_BadCorner_BadSize ?e_o_NoCorner_BadCorner ?e_o_NoCorner_BadSize ?e_o_BadSize_BadCorner ?e_o_BadSize_NoCorner ?a_is_integral ?l_is_integral ?d_is_integral ?k_is_integral ?a_BadPoint_init ?t_BadPoint_init ?l_BadPoint_init ?d_BadPoint_init ?k_BadPoint_init ?a_BadCorner_init ?t_BadCorner_init ?l_BadCorner_init ?d_BadCorner_init ?k_BadCorner_init ?a_Barred_init ?t_Barred_init ?l_Barred_init ?d_Barred_init ?k_Barred_init ?a_NoCorner_init ?t_NoCorner_init ?l_NoCorner_init ?d_NoCorner_init ?k_NoCorner_init ?a_BadSize_init ?t_BadSize_init ?l_BadSize_init ?d_BadSize_init ?k_BadSize_init ?a_BadNumber_init ?t_BadNumber_init ?l_BadNumber_init ?d_BadNumber_init ?k_BadNumber_init ?a_Root_init ?i_Root_init ?mk_Root_init ?kc_Root_init ?l_Root_init ?d_Root_init ?k_Root_init ?a_Root_eq ?i_Root_eq ?l_Root_eq ?d_Root_eq ?k_Root_eq ?a_Root_neg ?i_Root_neg ?l_Root_neg ?d_Root_neg ?k_Root_neg ?a_is_number ?l_is_number ?d_is_number ?k_is_number ?a_as_root ?l_as_root ?d_as_root ?k_as_root ?a_surd_sign ?l_surd_sign ?d_surd_sign ?k_surd_sign ?a_Root_add ?i_Root_add ?l_Root_add ?d_Root_add ?k_Root_add ?a_Root_sub ?i_Root_sub ?l_Root_sub ?d_Root_sub ?k_Root_sub ?a_Root_mul ?i_Root_mul ?l_Root_mul ?d_Root_mul ?k_Root_mul ?a_Root_radd ?i_Root_radd ?l_Root_radd ?d_Root_radd ?k_Root_radd ?a_Root_rmul ?i_Root_rmul ?l_Root_rmul ?d_Root_rmul ?k_Root_rmul ?a_Root_rsub ?i_Root_rsub ?l_Root_rsub ?d_Root_rsub ?k_Root_rsub ?a_Root_less ?i_Root_less ?l_Root_less ?d_Root_less ?k_Root_less ?a__law_start ?l__law_start ?d__law_start ?k__law_start ?a__law_mixed ?l__law_mixed ?d__law_mixed ?k__law_mixed ?a__law_draw ?l__law_draw ?d__law_draw ?k__law_draw ?a__law_between ?l__law_between ?d__law_between ?k__law_between ?a__law_plus ?l__law_plus ?d__law_plus ?k__law_plus ?a__law_minus ?l__law_minus ?d__law_minus ?k__law_minus ?a__law_sign ?l__law_sign ?d__law_sign ?k__law_sign ?a_is_corner ?l_is_corner ?d_is_corner ?k_is_corner ?a_check_corner ?l_check_corner ?d_check_corner ?k_check_corner ?a_step ?l_step ?d_step ?k_step ?a__law_star ?l__law_star ?d__law_star ?k__law_star ?a__law_corner ?l__law_corner ?d__law_corner ?k__law_corner ?a__law_is_corner ?l__law_is_corner ?d__law_is_corner ?k__law_is_corner ?a__law_bad_corner ?l__law_bad_corner ?d__law_bad_corner ?k__law_bad_corner ?a_is_point ?l_is_point ?d_is_point ?k_is_point ?a_as_roots ?l_as_roots ?d_as_roots ?k_as_roots ?a__law_given ?l__law_given ?d__law_given ?k__law_given ?a_check_point ?l_check_point ?d_check_point ?k_check_point ?a_is_half ?l_is_half ?d_is_half ?k_is_half ?a_bars_evenly ?l_bars_evenly ?d_bars_evenly ?k_bars_evenly ?a_bars_oddly ?l_bars_oddly ?d_bars_oddly ?k_bars_oddly ?a_barred ?l_barred ?d_barred ?k_barred ?a_gauge_of ?l_gauge_of ?d_gauge_of ?k_gauge_of ?a_beside ?l_beside ?d_beside ?k_beside ?a_in_window ?l_in_window ?d_in_window ?k_in_window ?a_Floor_init ?i_Floor_init ?mk_Floor_init ?kc_Floor_init ?l_Floor_init ?d_Floor_init ?k_Floor_init ?a_Floor_has_corner ?i_Floor_has_corner ?l_Floor_has_corner ?d_Floor_has_corner ?k_Floor_has_corner ?a__law_lines ?l__law_lines ?d__law_lines ?k__law_lines ?a__law_inside ?l__law_inside ?d__law_inside ?k__law_inside ?a__law_is_odd_half ?l__law_is_odd_half ?d__law_is_odd_half ?k__law_is_odd_half ?a__law_barred ?l__law_barred ?d__law_barred ?k__law_barred ?a__law_spot ?l__law_spot ?d__law_spot ?k__law_spot ?a__law_shift ?l__law_shift ?d__law_shift ?k__law_shift ?a__law_has ?l__law_has ?d__law_has ?k__law_has ?a_Floorways ?i_Floorways ?l_Floorways ?d_Floorways ?k_Floorways ?a_Floor_sides ?i_Floor_sides ?l_Floor_sides ?d_Floor_sides ?k_Floor_sides ?a__law_step ?l__law_step ?d__law_step ?k__law_step ?a__law_sides ?l__law_sides ?d__law_sides ?k__law_sides ?a__law_far ?l__law_far ?d__law_far ?k__law_far ?a__law_floor ?l__law_floor ?d__law_floor ?k__law_floor ?a_check_size ?l_check_size ?d_check_size ?k_check_size ?a_Floor_around ?i_Floor_around ?l_Floor_around ?d_Floor_around ?k_Floor_around ?a__law_rings ?l__law_rings ?d__law_rings ?k__law_rings ?a__law_asked ?l__law_asked ?d__law_asked ?k__law_asked ?a__law_refusals ?l__law_refusals ?d__law_refusals ?k__law_refusals ?a_law ?l_law ?d_law ?k_law
    (case r_FloorError => k_is)
    (case r_BadNumber => k_is)
    (case r_BadPoint => k_is)
    (case r_BadCorner => k_is)
    (case r_Barred => k_is)
    (case r_NoCorner => k_is)
    (case r_BadSize => k_is)
    (case r_Root => k_is)
    (case r_Floor => k_is)
    (case r_gcd => k_is)
    (case r_lcm => k_is)
    (case r_isinstance => k_is)
    (case r_list => k_is)
    (case r_int => k_is)
    (case r_range => k_is)
    (case r_len => k_is)
    (case r_abs => k_is)
    (case r_all => k_is)
    (case r_tuple => k_is)
    (case r_bool => k_is)
    (case r_enumerate => k_is)
    (case r_sorted => k_is)
    (case r_pg => k_is)
    (case r_hd => k_is)
    (case r_po => k_is)
    (case r_sa => k_is)
    (case r_ca => k_is)
    (case r_hm => k_is)
    (case r_ic => k_is)
    (case r_tc => k_is)
    (case r_s1 => k_is)
    (case r_s2 => k_is)
    (case r_nt => k_is)
    (case r_nr => k_is)
    (case r_nb => k_is)
    (case r_sf => k_is)
    (case r_ra => k_is)
    (case r_rs => k_is)
    (case r_rm => k_is)
    (case o_pg_Floor => k_is)
    (case o_hd_Floor => k_is)
    (case o_po_Floor => k_is)
    (case o_sa_Floor => k_is)
    (case o_nf_Floor_shift => k_is)
    (case o_nf_Floor__gauge => k_is)
    (case e_L_BadNumber => k_is)
    (case e_sa_BadNumber => k_is)
    (case e_e_BadNumber => k_is)
    (case e_t_BadNumber => k_is)
    (case e_k_BadNumber => k_is)
    (case e_n_BadNumber => k_is)
    (case e_ga_BadNumber => k_is)
    (case e_gg_BadNumber => k_is)
    (case e_hd_BadNumber => k_is)
    (case e_ic_BadNumber => k_is)
    (case e_s_BadNumber => k_is)
    (case e_L_BadPoint => k_is)
    (case e_sa_BadPoint => k_is)
    (case e_e_BadPoint => k_is)
    (case e_t_BadPoint => k_is)
    (case e_k_BadPoint => k_is)
    (case e_n_BadPoint => k_is)
    (case e_ga_BadPoint => k_is)
    (case e_gg_BadPoint => k_is)
    (case e_hd_BadPoint => k_is)
    (case e_ic_BadPoint => k_is)
    (case e_s_BadPoint => k_is)
    (case e_L_BadCorner => k_is)
    (case e_sa_BadCorner => k_is)
    (case e_e_BadCorner => k_is)
    (case e_t_BadCorner => k_is)
    (case e_k_BadCorner => k_is)
    (case e_n_BadCorner => k_is)
    (case e_ga_BadCorner => k_is)
    (case e_gg_BadCorner => k_is)
    (case e_hd_BadCorner => k_is)
    (case e_ic_BadCorner => k_is)
    (case e_s_BadCorner => k_is)
    (case e_L_Barred => k_is)
    (case e_sa_Barred => k_is)
    (case e_e_Barred => k_is)
    (case e_t_Barred => k_is)
    (case e_k_Barred => k_is)
    (case e_n_Barred => k_is)
    (case e_ga_Barred => k_is)
    (case e_gg_Barred => k_is)
    (case e_hd_Barred => k_is)
    (case e_ic_Barred => k_is)
    (case e_s_Barred => k_is)
    (case e_L_NoCorner => k_is)
    (case e_sa_NoCorner => k_is)
    (case e_e_NoCorner => k_is)
    (case e_t_NoCorner => k_is)
    (case e_k_NoCorner => k_is)
    (case e_n_NoCorner => k_is)
    (case e_ga_NoCorner => k_is)
    (case e_gg_NoCorner => k_is)
    (case e_hd_NoCorner => k_is)
    (case e_ic_NoCorner => k_is)
    (case e_s_NoCorner => k_is)
    (case e_L_BadSize => k_is)
    (case e_sa_BadSize => k_is)
    (case e_e_BadSize => k_is)
    (case e_t_BadSize => k_is)
    (case e_k_BadSize => k_is)
    (case e_n_BadSize => k_is)
    (case e_ga_BadSize => k_is)
    (case e_gg_BadSize => k_is)
    (case e_hd_BadSize => k_is)
    (case e_ic_BadSize => k_is)
    (case e_s_BadSize => k_is)
    (case e_o_BadCorner_NoCorner => k_is)
    (case e_o_BadCorner_BadSize => k_is)
    (case e_o_NoCorner_BadCorner => k_is)
    (case e_o_NoCorner_BadSize => k_is)
    (case e_o_BadSize_BadCorner => k_is)
    (case e_o_BadSize_NoCorner => k_is)
    (case a_is_integral => k_is)
    (case l_is_integral => k_is)
    (case d_is_integral => k_is)
    (case k_is_integral => k_is)
    (case a_BadPoint_init => k_is)
    (case t_BadPoint_init => k_is)
    (case l_BadPoint_init => k_is)
    (case d_BadPoint_init => k_is)
    (case k_BadPoint_init => k_is)
    (case a_BadCorner_init => k_is)
    (case t_BadCorner_init => k_is)
    (case l_BadCorner_init => k_is)
    (case d_BadCorner_init => k_is)
    (case k_BadCorner_init => k_is)
    (case a_Barred_init => k_is)
    (case t_Barred_init => k_is)
    (case l_Barred_init => k_is)
    (case d_Barred_init => k_is)
    (case k_Barred_init => k_is)
    (case a_NoCorner_init => k_is)
    (case t_NoCorner_init => k_is)
    (case l_NoCorner_init => k_is)
    (case d_NoCorner_init => k_is)
    (case k_NoCorner_init => k_is)
    (case a_BadSize_init => k_is)
    (case t_BadSize_init => k_is)
    (case l_BadSize_init => k_is)
    (case d_BadSize_init => k_is)
    (case k_BadSize_init => k_is)
    (case a_BadNumber_init => k_is)
    (case t_BadNumber_init => k_is)
    (case l_BadNumber_init => k_is)
    (case d_BadNumber_init => k_is)
    (case k_BadNumber_init => k_is)
    (case a_Root_init => k_is)
    (case i_Root_init => k_is)
    (case mk_Root_init => k_is)
    (case kc_Root_init => k_is)
    (case l_Root_init => k_is)
    (case d_Root_init => k_is)
    (case k_Root_init => k_is)
    (case a_Root_eq => k_is)
    (case i_Root_eq => k_is)
    (case l_Root_eq => k_is)
    (case d_Root_eq => k_is)
    (case k_Root_eq => k_is)
    (case a_Root_neg => k_is)
    (case i_Root_neg => k_is)
    (case l_Root_neg => k_is)
    (case d_Root_neg => k_is)
    (case k_Root_neg => k_is)
    (case a_is_number => k_is)
    (case l_is_number => k_is)
    (case d_is_number => k_is)
    (case k_is_number => k_is)
    (case a_as_root => k_is)
    (case l_as_root => k_is)
    (case d_as_root => k_is)
    (case k_as_root => k_is)
    (case a_surd_sign => k_is)
    (case l_surd_sign => k_is)
    (case d_surd_sign => k_is)
    (case k_surd_sign => k_is)
    (case a_Root_add => k_is)
    (case i_Root_add => k_is)
    (case l_Root_add => k_is)
    (case d_Root_add => k_is)
    (case k_Root_add => k_is)
    (case a_Root_sub => k_is)
    (case i_Root_sub => k_is)
    (case l_Root_sub => k_is)
    (case d_Root_sub => k_is)
    (case k_Root_sub => k_is)
    (case a_Root_mul => k_is)
    (case i_Root_mul => k_is)
    (case l_Root_mul => k_is)
    (case d_Root_mul => k_is)
    (case k_Root_mul => k_is)
    (case a_Root_radd => k_is)
    (case i_Root_radd => k_is)
    (case l_Root_radd => k_is)
    (case d_Root_radd => k_is)
    (case k_Root_radd => k_is)
    (case a_Root_rmul => k_is)
    (case i_Root_rmul => k_is)
    (case l_Root_rmul => k_is)
    (case d_Root_rmul => k_is)
    (case k_Root_rmul => k_is)
    (case a_Root_rsub => k_is)
    (case i_Root_rsub => k_is)
    (case l_Root_rsub => k_is)
    (case d_Root_rsub => k_is)
    (case k_Root_rsub => k_is)
    (case a_Root_less => k_is)
    (case i_Root_less => k_is)
    (case l_Root_less => k_is)
    (case d_Root_less => k_is)
    (case k_Root_less => k_is)
    (case a__law_start => k_is)
    (case l__law_start => k_is)
    (case d__law_start => k_is)
    (case k__law_start => k_is)
    (case a__law_mixed => k_is)
    (case l__law_mixed => k_is)
    (case d__law_mixed => k_is)
    (case k__law_mixed => k_is)
    (case a__law_draw => k_is)
    (case l__law_draw => k_is)
    (case d__law_draw => k_is)
    (case k__law_draw => k_is)
    (case a__law_between => k_is)
    (case l__law_between => k_is)
    (case d__law_between => k_is)
    (case k__law_between => k_is)
    (case a__law_plus => k_is)
    (case l__law_plus => k_is)
    (case d__law_plus => k_is)
    (case k__law_plus => k_is)
    (case a__law_minus => k_is)
    (case l__law_minus => k_is)
    (case d__law_minus => k_is)
    (case k__law_minus => k_is)
    (case a__law_sign => k_is)
    (case l__law_sign => k_is)
    (case d__law_sign => k_is)
    (case k__law_sign => k_is)
    (case a_is_corner => k_is)
    (case l_is_corner => k_is)
    (case d_is_corner => k_is)
    (case k_is_corner => k_is)
    (case a_check_corner => k_is)
    (case l_check_corner => k_is)
    (case d_check_corner => k_is)
    (case k_check_corner => k_is)
    (case a_step => k_is)
    (case l_step => k_is)
    (case d_step => k_is)
    (case k_step => k_is)
    (case a__law_star => k_is)
    (case l__law_star => k_is)
    (case d__law_star => k_is)
    (case k__law_star => k_is)
    (case a__law_corner => k_is)
    (case l__law_corner => k_is)
    (case d__law_corner => k_is)
    (case k__law_corner => k_is)
    (case a__law_is_corner => k_is)
    (case l__law_is_corner => k_is)
    (case d__law_is_corner => k_is)
    (case k__law_is_corner => k_is)
    (case a__law_bad_corner => k_is)
    (case l__law_bad_corner => k_is)
    (case d__law_bad_corner => k_is)
    (case k__law_bad_corner => k_is)
    (case a_is_point => k_is)
    (case l_is_point => k_is)
    (case d_is_point => k_is)
    (case k_is_point => k_is)
    (case a_as_roots => k_is)
    (case l_as_roots => k_is)
    (case d_as_roots => k_is)
    (case k_as_roots => k_is)
    (case a__law_given => k_is)
    (case l__law_given => k_is)
    (case d__law_given => k_is)
    (case k__law_given => k_is)
    (case a_check_point => k_is)
    (case l_check_point => k_is)
    (case d_check_point => k_is)
    (case k_check_point => k_is)
    (case a_is_half => k_is)
    (case l_is_half => k_is)
    (case d_is_half => k_is)
    (case k_is_half => k_is)
    (case a_bars_evenly => k_is)
    (case l_bars_evenly => k_is)
    (case d_bars_evenly => k_is)
    (case k_bars_evenly => k_is)
    (case a_bars_oddly => k_is)
    (case l_bars_oddly => k_is)
    (case d_bars_oddly => k_is)
    (case k_bars_oddly => k_is)
    (case a_barred => k_is)
    (case l_barred => k_is)
    (case d_barred => k_is)
    (case k_barred => k_is)
    (case a_gauge_of => k_is)
    (case l_gauge_of => k_is)
    (case d_gauge_of => k_is)
    (case k_gauge_of => k_is)
    (case a_beside => k_is)
    (case l_beside => k_is)
    (case d_beside => k_is)
    (case k_beside => k_is)
    (case a_in_window => k_is)
    (case l_in_window => k_is)
    (case d_in_window => k_is)
    (case k_in_window => k_is)
    (case a_Floor_init => k_is)
    (case i_Floor_init => k_is)
    (case mk_Floor_init => k_is)
    (case kc_Floor_init => k_is)
    (case l_Floor_init => k_is)
    (case d_Floor_init => k_is)
    (case k_Floor_init => k_is)
    (case a_Floor_has_corner => k_is)
    (case i_Floor_has_corner => k_is)
    (case l_Floor_has_corner => k_is)
    (case d_Floor_has_corner => k_is)
    (case k_Floor_has_corner => k_is)
    (case a__law_lines => k_is)
    (case l__law_lines => k_is)
    (case d__law_lines => k_is)
    (case k__law_lines => k_is)
    (case a__law_inside => k_is)
    (case l__law_inside => k_is)
    (case d__law_inside => k_is)
    (case k__law_inside => k_is)
    (case a__law_is_odd_half => k_is)
    (case l__law_is_odd_half => k_is)
    (case d__law_is_odd_half => k_is)
    (case k__law_is_odd_half => k_is)
    (case a__law_barred => k_is)
    (case l__law_barred => k_is)
    (case d__law_barred => k_is)
    (case k__law_barred => k_is)
    (case a__law_spot => k_is)
    (case l__law_spot => k_is)
    (case d__law_spot => k_is)
    (case k__law_spot => k_is)
    (case a__law_shift => k_is)
    (case l__law_shift => k_is)
    (case d__law_shift => k_is)
    (case k__law_shift => k_is)
    (case a__law_has => k_is)
    (case l__law_has => k_is)
    (case d__law_has => k_is)
    (case k__law_has => k_is)
    (case a_Floorways => k_is)
    (case i_Floorways => k_is)
    (case l_Floorways => k_is)
    (case d_Floorways => k_is)
    (case k_Floorways => k_is)
    (case a_Floor_sides => k_is)
    (case i_Floor_sides => k_is)
    (case l_Floor_sides => k_is)
    (case d_Floor_sides => k_is)
    (case k_Floor_sides => k_is)
    (case a__law_step => k_is)
    (case l__law_step => k_is)
    (case d__law_step => k_is)
    (case k__law_step => k_is)
    (case a__law_sides => k_is)
    (case l__law_sides => k_is)
    (case d__law_sides => k_is)
    (case k__law_sides => k_is)
    (case a__law_far => k_is)
    (case l__law_far => k_is)
    (case d__law_far => k_is)
    (case k__law_far => k_is)
    (case a__law_floor => k_is)
    (case l__law_floor => k_is)
    (case d__law_floor => k_is)
    (case k__law_floor => k_is)
    (case a_check_size => k_is)
    (case l_check_size => k_is)
    (case d_check_size => k_is)
    (case k_check_size => k_is)
    (case a_Floor_around => k_is)
    (case i_Floor_around => k_is)
    (case l_Floor_around => k_is)
    (case d_Floor_around => k_is)
    (case k_Floor_around => k_is)
    (case a__law_rings => k_is)
    (case l__law_rings => k_is)
    (case d__law_rings => k_is)
    (case k__law_rings => k_is)
    (case a__law_asked => k_is)
    (case l__law_asked => k_is)
    (case d__law_asked => k_is)
    (case k__law_asked => k_is)
    (case a__law_refusals => k_is)
    (case l__law_refusals => k_is)
    (case d__law_refusals => k_is)
    (case k__law_refusals => k_is)
    (case a_law => k_is)
    (case l_law => k_is)
    (case d_law => k_is)
    (case k_law => k_is)
