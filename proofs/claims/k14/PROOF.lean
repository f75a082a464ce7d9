import PyProof.Rows.All
import Wide.All
import OpenK.AllK
import Wide.FinOn
import KE.KOpsOwn
import KE.KCallOwn
import PyProof.InstNe
import HandS.ForMost
import HandS.IsInst
import HandS.Property
import HandS.FStr
import HandS.WideBits
import HandS.Zip
import HandS.TupAny
import HandS.RaiseMore
import HandS.Defaults
import HandS.SlotsOwn
import KE.KFmtOwn
import PyProof.FactsAll.object_2
import HandS.Walk
import HandS.NoneIn
import HandS.Style
import HandS.Finally
import HandS.DictTup
import HandS.DictComp
import HandS.Keys
import PyProof.ReprRoads
import PyProof.Rows.NestShow
import KE.KExcInit
import HandS.ExcInit
import PyProof.ExcBaseAll.LookupError
import PyProof.ExcBaseAll.RuntimeError
import PyProof.ExcBaseAll.ArithmeticError
import HandS.ExcField
import HandS.WordsExc
import HandS.ExcOwn
import HandS.TryMany
import HandS.ExcIs
import KE.KExcPX
import HandS.MakeKw
import HandS.ExcValue
import HandS.EndTab
import KE.KNestM
import PyProof.StrLawsRepr
import PyProof.InstStoreFacts
import PySem.Challenge.RW_stitchsizes_k14_errors_created
set_option Elab.async false
set_option linter.all false
set_option maxRecDepth 100000
set_option maxHeartbeats 4000000
namespace L2
open PySem PySem.Spec PyProof.Rows
section
variable {X : Cx} {CX : CXT} {pins : List (Addr × Obj)} {σ : St} {H : Hp} {s : Shared} {a C dx g : Addr} {fs : List (Str × V)} {n : Nat} {sp : Sp} {E : XK} {fd : FuncData} {ps : List Str}

/-- a def of a class runs, called by an operation of the machine's own at A -/
theorem run_under {A : Around} {Q : VK} {us : List Value} {ws : List V} (F : FnOk X.prog X.w X.K X.mg X.base CX n g fd ps sp) (hb : Binds X.K fd ps []) (hr : Room n A)
    (e0 : Env0 X.prog X.w X.K X.mg X.base A X.stack s H) (hx : Passes CX X E) (I : Inv X pins σ H s) (r : Vals ws us) (h : sp ws H Q E) :
    wpAny (model X.prog X.w) A (call (.ref g) us) (EP X pins σ Q) X.xe s := by
  have hl : (us ++ []).length = ps.length := by
    rw [List.append_nil, ← F.len _ _ _ _ h, r.length]
  refine wpAny_call (codeAny_mono (F.run A X.stack s H ⟨us, []⟩ (us ++ []) ws Q E hr e0 (hb _ us I.kIn hl) (by rw [List.append_nil]; exact r) h) fun r' s' hq => ?_)
  cases r' with
  | error e => exact hx pins σ H s e s' I hq
  | ok fl =>
    cases fl with
    | ret u =>
      first
        | exact I.after hq
        | exact ⟨rfl, I.after hq⟩
    | next => exact False.elim hq
    | brk => exact False.elim hq
    | cont => exact False.elim hq

/-- what a dunder def hands back is no NotImplemented -/
theorem cmpback' {P : Value → Shared → Prop} {z : V} {v : Value} {s' : Shared} (r : RelV z v) (h : P v s') : PySem.W.CmpBack P v s' := SlX.cmpback r h

/-- a value's type, looked up -/
theorem looks_ty {x : V} {u t : Value} (I : Inv X pins σ H s) (rx : RelV x u) (ty : TyX X.K H x t) : PySem.W.Looks (model X.prog X.w) s.heap (typeOf u) t := by
  obtain ⟨P, k, hp, _⟩ := kit_of I rx ty
  exact k.ty _ _ I.kIn hp

/-- x op y, x an instance of the class at C whose def for op is at g -/
def rCmpOwn (K : PySem.W.Frag) (C : Addr) (sp : Sp) (E : XK) : R2 := fun x y H Q => ∃ a dx fs t, x = .ref a ∧ H a = some (.ins C dx fs) ∧ TyX K H y t ∧ PySem.W.notFirst K C t = true ∧ sp [x, y] H Q E
theorem op_cmpOwn {op : CmpOp} (hop : ∀ a b, compareOp op a b = richCompare op a b) (hs : PySem.W.findIn X.K (.ref C) (cmpInfo op).2.1 = some (some (.ref g))) (hf : PySem.W.isFn X.K (.ref g) = true)
    (F : FnOk X.prog X.w X.K X.mg X.base CX n g fd ps sp) (hb : Binds X.K fd ps []) (hr : Room n X.A) (hx : Passes CX X E) : OpR X (compareOp op) (rCmpOwn X.K C sp E) := by
  intro pins s σ H x y v u Q I rx ry h
  obtain ⟨a, dx, fs, t, rfl, ha, ht, hn, q⟩ := h
  cases (show v = Value.ref a from rx)
  obtain ⟨mA, O, _, _, _, _⟩ := ins_get I.hok ha
  obtain ⟨od, J, _⟩ := O.look
  obtain ⟨m, hF⟩ := I.fr
  rw [hop]
  refine PySem.W.cmp_K (op := op) (tb := t) hr.units0 hF I.ok.mod.kin J (looks_ty I ry ht) hn hs hf ?_
  refine wpAny_mono (run_fn (us := [.ref a, u]) (vs := [.ref a, y]) (dvs := []) F hr hb .nil hx I (.cons rfl (.cons ry .nil)) (by simpa using q)) (fun w s' z => ?_) fun _ _ x => x
  obtain ⟨z', H', I', rz, qz⟩ := z
  exact cmpback' rz ⟨z', H', I', rz, qz⟩
theorem op_eqOwn (hs : PySem.W.findIn X.K (.ref C) "__eq__" = some (some (.ref g))) (hf : PySem.W.isFn X.K (.ref g) = true)
    (F : FnOk X.prog X.w X.K X.mg X.base CX n g fd ps sp) (hb : Binds X.K fd ps []) (hr : Room n X.A) (hx : Passes CX X E) : OpR X (compareOp .Eq) (rCmpOwn X.K C sp E) :=
  op_cmpOwn (fun _ _ => rfl) hs hf F hb hr hx

/-- -x, x an instance -/
def rUnOwn (C : Addr) (sp : Sp) (E : XK) : V → Hp → VK → Prop := fun x H Q => ∃ a dx fs, x = .ref a ∧ H a = some (.ins C dx fs) ∧ sp [x] H Q E
theorem un_negOwn (hs : PySem.W.findIn X.K (.ref C) "__neg__" = some (some (.ref g))) (hf : PySem.W.isFn X.K (.ref g) = true)
    (F : FnOk X.prog X.w X.K X.mg X.base CX n g fd ps sp) (hb : Binds X.K fd ps []) (hr : Room n X.A) (hx : Passes CX X E) : UnR X (unaryOp .USub) (rUnOwn C sp E) := by
  intro pins s σ H x v Q I rx h
  obtain ⟨a, dx, fs, rfl, ha, q⟩ := h
  cases (show v = Value.ref a from rx)
  obtain ⟨mA, O, _, _, _, _⟩ := ins_get I.hok ha
  obtain ⟨od, J, _⟩ := O.look
  obtain ⟨m, hF⟩ := I.fr
  refine PySem.W.ksp_neg hF I.ok.mod.kin J hs hf ?_
  exact run_fn (us := [.ref a]) (vs := [.ref a]) (dvs := []) F hr hb .nil hx I (.cons rfl .nil) (by simpa using q)

/-- x op y, x an instance of the class at C whose def for op is at g; y an instance of the same class -/
def rBinSame (C : Addr) (sp : Sp) (E : XK) : R2 := fun x y H Q => ∃ a dx fs b dy gs, x = .ref a ∧ y = .ref b ∧ H a = some (.ins C dx fs) ∧ H b = some (.ins C dy gs) ∧ sp [x, y] H Q E
theorem op_binSame {op : Operator} (hc : PySem.W.selfFirst X.K C = true) (hs : PySem.W.findIn X.K (.ref C) (PySem.dunder op.info.2) = some (some (.ref g))) (hf : PySem.W.isFn X.K (.ref g) = true)
    (F : FnOk X.prog X.w X.K X.mg X.base CX n g fd ps sp) (hb : Binds X.K fd ps []) (hr : Room n X.A) (hx : Passes CX X E) : OpR X (binaryOp op) (rBinSame C sp E) := by
  intro pins s σ H x y v u Q I rx ry h
  obtain ⟨a, dx, fs, b, dy, gs, rfl, rfl, ha, hbb, q⟩ := h
  cases (show v = Value.ref a from rx)
  cases (show u = Value.ref b from ry)
  obtain ⟨mA, O, _, _, _, _⟩ := ins_get I.hok ha
  obtain ⟨od, J, _⟩ := O.look
  obtain ⟨mB, O', _, _, _, _⟩ := ins_get I.hok hbb
  obtain ⟨od', J', _⟩ := O'.look
  obtain ⟨m, hF⟩ := I.fr
  refine PySem.W.binop_K (op := op) hF I.ok.mod.kin J J'.type hc hs hf ?_
  refine wpAny_mono (run_fn (us := [.ref a, .ref b]) (vs := [.ref a, .ref b]) (dvs := []) F hr hb .nil hx I (.cons rfl (.cons rfl .nil)) (by simpa using q)) (fun w s' z => ?_) fun _ _ x => x
  obtain ⟨z', H', I', rz, qz⟩ := z
  exact cmpback' rz ⟨z', H', I', rz, qz⟩
/-- x op n, n an int -/
def rBinInt (C : Addr) (sp : Sp) (E : XK) : R2 := fun x y H Q => ∃ a dx fs i, x = .ref a ∧ y = .int i ∧ H a = some (.ins C dx fs) ∧ sp [x, y] H Q E
theorem op_binInt {op : Operator} {fo ro rc : Option Value} (hc : PySem.W.selfFirst X.K C = true) (hs : PySem.W.findIn X.K (.ref C) (PySem.dunder op.info.2) = some (some (.ref g))) (hf : PySem.W.isFn X.K (.ref g) = true)
    (hR : PySem.W.findIn X.K (.ref C) (dunderR op.info.2) = some rc) (hp : rc = none ∨ ∃ g : Addr, rc = some (.ref g))
    (h1 : PySem.W.findIn X.K (.type "int") (PySem.dunder op.info.2) = some fo) (h2 : PySem.W.findIn X.K (.type "int") (dunderR op.info.2) = some ro) (hsub : PySem.W.subIn X.K (.type "int") (.ref C) = some false)
    (F : FnOk X.prog X.w X.K X.mg X.base CX n g fd ps sp) (hb : Binds X.K fd ps []) (hr : Room n X.A) (hx : Passes CX X E) : OpR X (binaryOp op) (rBinInt C sp E) := by
  intro pins s σ H x y v u Q I rx ry h
  obtain ⟨a, dx, fs, i, rfl, rfl, ha, q⟩ := h
  cases (show v = Value.ref a from rx)
  obtain ⟨t, e⟩ := (show ∃ t, u = Value.int i t from ry)
  cases e
  obtain ⟨mA, O, _, _, _, _⟩ := ins_get I.hok ha
  obtain ⟨od, J, _⟩ := O.look
  obtain ⟨m, hF⟩ := I.fr
  refine PySem.W.ksp_binT (op := op) (T := "int") hF I.ok.mod.kin J rfl hc hs hf hR hp h1 h2 hsub ?_
  refine wpAny_mono (run_fn (us := [.ref a, .int i t]) (vs := [.ref a, .int i]) (dvs := []) F hr hb .nil hx I (.cons rfl (.cons ⟨t, rfl⟩ .nil)) (by simpa using q)) (fun w s' z => ?_) fun _ _ x => x
  obtain ⟨z', H', I', rz, qz⟩ := z
  exact cmpback' rz ⟨z', H', I', rz, qz⟩

/-- repr(x), x an instance whose class has its own __repr__ -/
def rReprOwn (C : Addr) (sp : Sp) (E : XK) : List V → Hp → VK → Prop := fun xs H Q => ∃ a dx fs, xs = [V.ref a] ∧ H a = some (.ins C dx fs) ∧ sp [.ref a] H (fun z H' => ∃ y, z = .str y ∧ Q z H') E
theorem strback {P : Value → Shared → Prop} {y : Str} {v : Value} {s' : Shared} (r : RelV (.str y) v) (h : P v s') : PySem.W.StrBack P v s' := by
  obtain ⟨t, e⟩ := (show ∃ t, v = Value.str y t from r)
  cases e
  exact h
theorem call_reprOwn (hs : PySem.W.findIn X.K (.ref C) "__repr__" = some (some (.ref g))) (hf : PySem.W.isFn X.K (.ref g) = true)
    (F : FnOk X.prog X.w X.K X.mg X.base CX n g fd ps sp) (hb : Binds X.K fd ps []) (hr : Room (n + 1) X.A) (hx : Passes CX X E) : CallR X (.builtin "repr") (rReprOwn C sp E) := by
  intro pins s σ H xs us Q I r h
  obtain ⟨a, dx, fs, rfl, ha, q⟩ := h
  obtain ⟨u, rfl, ru⟩ := r.one
  cases (show u = Value.ref a from ru)
  obtain ⟨mA, O, _, _, _, _⟩ := ins_get I.hok ha
  obtain ⟨od, J, _⟩ := O.look
  obtain ⟨m, hF⟩ := I.fr
  refine PySem.W.repr_K hr.in1.units0 hF I.ok.mod.kin J hs hf ?_
  refine wpAny_mono (run_under (us := [.ref a]) (ws := [.ref a]) F hb hr.in1 I.env0.in1 hx I (.cons rfl .nil) q) (fun w s' z => ?_) fun _ _ x => x
  obtain ⟨z', H', I', rz, y, ey, qz⟩ := z
  subst ey
  exact strback rz ⟨.str y, H', I', rz, qz⟩
theorem call_strOwn (hs : PySem.W.findIn X.K (.ref C) "__str__" = some (some (.ref g))) (hf : PySem.W.isFn X.K (.ref g) = true)
    (F : FnOk X.prog X.w X.K X.mg X.base CX n g fd ps sp) (hb : Binds X.K fd ps []) (hr : Room (n + 2) X.A) (hx : Passes CX X E) : CallR X (.type "str") (rReprOwn C sp E) := by
  intro pins s σ H xs us Q I r h
  obtain ⟨a, dx, fs, rfl, ha, q⟩ := h
  obtain ⟨u, rfl, ru⟩ := r.one
  cases (show u = Value.ref a from ru)
  obtain ⟨mA, O, _, _, _, _⟩ := ins_get I.hok ha
  obtain ⟨od, J, _⟩ := O.look
  have hr2 : Room n X.A.in1.in1 := (show Room (n + 1) X.A.in1 from Room.in1 hr).in1
  refine PySem.W.kso_call hr2.units0 I.kIn J hs hf ?_
  refine wpAny_mono (run_under (us := [.ref a]) (ws := [.ref a]) F hb hr2 I.env0.in1.in1 hx I (.cons rfl .nil) q) (fun w s' z => ?_) fun _ _ x => x
  obtain ⟨z', H', I', rz, y, ey, qz⟩ := z
  subst ey
  exact strback rz ⟨.str y, H', I', rz, qz⟩
section
open PySem.W
variable {prog : Program} {w : World} {M : Model} {A : Around} {E : Value → Shared → Prop} {s : Shared} {K : Frag} {x C f : Addr} {ox : Obj} {od : Option Obj} {name : Str}
theorem ifBound_B {id : String} {args : List Value} {Q : Option Value → Shared → Prop} (X : K.In s.heap) (I : InstAt s.heap x ox C od) (hs : findIn K (.ref C) name = some (some (.builtin id)))
    (hb : ∀ self, bindSpecial (.builtin id) self = pure (.builtin id, [self])) (h : wpAny M A (call (.builtin id) (.ref x :: args)) (fun v => Q (some v)) E s) : wpAny M A (callSpecialIfBound? (.ref x) name args) Q E s := by
  simp only [callSpecialIfBound?, bindSpecialIfBound?]
  refine wpAny_holding (wpAny_bind (wpAny_bind (wpAny_bind (I.type.here ((looks_findIn X hs).here ?_)))))
  refine wpAny_bind (wpAny_askSetting (wpAny_ite ?_))
  have fin : wpAny M A (call (.builtin id) ([.ref x] ++ args) >>= fun v => pure (some v)) Q E s := wpAny_bind (wpAny_mono h (fun v s' h' => wpAny_pure h') fun _ _ h' => h')
  split
  · exact wpAny_bind ((Looks.of_pure (hb _)).here (wpAny_pure (by exact fin)))
  · exact wpAny_tryCatch (wpAny_bind ((Looks.of_pure (hb _)).here (wpAny_pure (by exact fin))))
/-- object.__ne__ asks the own __eq__ -/
theorem one_K {b : Value} {Q : Value → Shared → Prop} (hu : A.in1.units < cLine) (X : K.In s.heap) (I : InstAt s.heap x ox C od) (hm : mroIn K C (.type "object") = some true)
    (he : findIn K (.ref C) "__eq__" = some (some (.ref f))) (hf : isFn K (.ref f) = true)
    (h : wpAny (model prog w) A.in1 (call (.ref f) [.ref x, b]) (fun v s' => ∃ r, v = .bool r ∧ Q (.bool (!r)) s') E s) : wpAny (model prog w) A (call (.builtin "object.__ne__") [.ref x, b]) Q E s := by
  refine wpAny_call (codeAny_call_builtin PySem.F.slot_object_ne.plain PySem.F.cmpEntry_ne (check_slot (i := "object.__ne__") (owner := "object") (n := "__ne__") (by decide +kernel) (by decide +kernel) (I.type.andThen (looks_mroIn X hm)) (PySem.F.cmpArgs_ne _ _) ?_))
  unfold Builtin.«object.__ne__»
  repeat (first
    | with_reducible refine wpAny_cRoomFor hu ?_
    | (refine wpAny_bind (m := callSpecialIfBound? (.ref x) (Str.ofString "__eq__") [b])
        (ifBound_K X I he hf (wpAny_mono h (fun r s' hr => by
          obtain ⟨b, rfl, hq⟩ := hr
          repeat (first | exact hq | exact wpAny_pure hq | exact wpAny_truthy_bool hq | (refine wpAny_bind (m := truthy (.bool _)) (wpAny_truthy_bool ?_)) | wp_step)) fun _ _ e => e)))
    | wp_step)
theorem ne_own {b tb : Value} {Q : Value → Shared → Prop} (hu : A.in1.units < cLine) (hu0 : A.units < cLine) (X : K.In s.heap) (I : InstAt s.heap x ox C od) (hb : Looks (model prog w) s.heap (typeOf b) tb) (hn : notFirst K C tb = true)
    (hm : mroIn K C (.type "object") = some true) (hne : findIn K (.ref C) "__ne__" = some (some (.builtin "object.__ne__")))
    (he : findIn K (.ref C) "__eq__" = some (some (.ref f))) (hf : isFn K (.ref f) = true)
    (h : wpAny (model prog w) A.in1 (call (.ref f) [.ref x, b]) (fun v s' => ∃ r, v = .bool r ∧ Q (.bool (!r)) s') E s) : wpAny (model prog w) A (richCompare .NotEq (.ref x) b) Q E s := by
  have one : wpAny (model prog w) A (tryCompare (.ref x) (cmpInfo .NotEq).2.1 b) (fun r s' => ∃ v, r = some v ∧ Q v s') E s := by
    unfold tryCompare
    refine wpAny_bind (ifBound_B X I hne PySem.F.slot_object_ne.bind (one_K hu X I hm he hf (wpAny_mono h (fun v s' hv => ?_) fun _ _ e => e)))
    obtain ⟨r, rfl, hq⟩ := hv
    exact ⟨r, rfl, wpAny_pure ⟨_, rfl, hq⟩⟩
  unfold richCompare
  simp only [oneThing_ref]
  refine wpAny_holding (wpAny_bind (wpAny_cRoomFor hu0 ?_))
  refine wpAny_bind (I.type.here (wpAny_bind (hb.here ?_)))
  split
  · rename_i q
    have e : subIn K tb (.ref C) = some false := by
      rcases Bool.or_eq_true_iff.mp hn with e | e
      · rw [beq_iff_eq.mp e] at q; simp at q
      · exact beq_iff_eq.mp e
    refine wpAny_bind ((looks_subIn X e).here ?_)
    simp only [Bool.false_eq_true, if_false]
    refine wpAny_bind (wpAny_mono one (fun r s' z => ?_) fun _ _ e => e)
    obtain ⟨v, rfl, hq⟩ := z
    exact wpAny_pure hq
  · refine wpAny_bind (wpAny_pure ?_)
    simp only [Bool.false_eq_true, if_false]
    refine wpAny_bind (wpAny_mono one (fun r s' z => ?_) fun _ _ e => e)
    obtain ⟨v, rfl, hq⟩ := z
    exact wpAny_pure hq
end
/-- x != y, by the own __eq__ -/
def rNeOwn (K : PySem.W.Frag) (C : Addr) (sp : Sp) (E : XK) : R2 := fun x y H Q => ∃ a dx fs t, x = .ref a ∧ H a = some (.ins C dx fs) ∧ TyX K H y t ∧ PySem.W.notFirst K C t = true ∧ sp [x, y] H (fun z H' => ∃ r, z = .bl r ∧ Q (.bl (!r)) H') E
theorem op_neOwn (hm : PySem.W.mroIn X.K C (.type "object") = some true) (hne : PySem.W.findIn X.K (.ref C) "__ne__" = some (some (.builtin "object.__ne__"))) (hs : PySem.W.findIn X.K (.ref C) "__eq__" = some (some (.ref g))) (hf : PySem.W.isFn X.K (.ref g) = true)
    (F : FnOk X.prog X.w X.K X.mg X.base CX n g fd ps sp) (hb : Binds X.K fd ps []) (hr : Room (n + 1) X.A) (hx : Passes CX X E) : OpR X (compareOp .NotEq) (rNeOwn X.K C sp E) := by
  intro pins s σ H x y v u Q I rx ry h
  obtain ⟨a, dx, fs, t, rfl, ha, ht, hn, q⟩ := h
  cases (show v = Value.ref a from rx)
  obtain ⟨mA, O, _, _, _, _⟩ := ins_get I.hok ha
  obtain ⟨od, J, _⟩ := O.look
  show wpAny _ _ (richCompare .NotEq _ _) _ _ _
  refine ne_own (tb := t) hr.in1.units0 hr.units0 I.kIn J (looks_ty I ry ht) hn hm hne hs hf ?_
  refine wpAny_mono (run_under (us := [.ref a, u]) (ws := [.ref a, y]) F hb hr.in1 I.env0.in1 hx I (.cons rfl (.cons ry .nil)) q) (fun w s' z => ?_) fun _ _ x => x
  obtain ⟨z', H', I', rz, r, ez, qz⟩ := z
  subst ez
  cases (show w = Value.bool r from rz)
  exact ⟨r, rfl, .bl (!r), H', I', rfl, qz⟩
/-- repr of True, False -/
theorem call_repr_bool : CallR X (.builtin "repr") (fun xs H Q => ∃ b, xs = [.bl b] ∧ Q (.str (if b then "True" else "False")) H) := by
  intro pins s σ H xs us Q I r h
  obtain ⟨b, rfl, q⟩ := h
  obtain ⟨u, rfl, ru⟩ := r.one
  cases (show u = Value.bool b from ru)
  exact PySem.P.repr_of_bool ⟨.str _, H, I.tok _, ⟨_, rfl⟩, q⟩
end
end L2

set_option maxHeartbeats 4000000
namespace L2
open PySem PySem.Spec PyProof.Rows
/-! ### a def of the module as it stands behind the top, and what it promises -/
structure FunAt (K : PySem.W.Frag) (mg : Str → Option Value) (x qual : Str) (st : Stmt) : Prop where
  ex : ∃ (f : Addr) (fd : FuncData), mg x = some (.ref f) ∧ Fun K x qual st f fd
structure Has (P : Program) (w : World) (K : PySem.W.Frag) (mg : Str → Option Value) (base : Heap) (x : Str) (k : Nat) (ps : List Str) (sp : Sp) : Prop where
  ex : ∃ (f : Addr) (fd : FuncData), mg x = some (.ref f) ∧ PySem.W.keepIn K (.ref f) = true ∧ Binds K fd ps [] ∧ FnOk P w K mg base CX0 k f fd ps sp
section
variable {P : Program} {w : World} {K : PySem.W.Frag} {mg : Str → Option Value} {base : Heap}
theorem has_of {x qual : Str} {st : Stmt} {N ps : List Str} {k : Nat} {sp : Sp} (F : FunAt K mg x qual st) (S : FnScope N ps (defScope st))
    (hb : ∀ (kV doc pm : Value) (an : Option Addr) (cdv ct : Value) (us : List Value), us.length = ps.length → bindArgs (PySem.W.fnOf x qual (defArgs st) (defBody st) (defScope st) .none kV doc pm an cdv ct) ⟨us, []⟩ = pure (ps.zip us))
    (len : ∀ vs H Q E, sp vs H Q E → vs.length = ps.length)
    (hbody : ∀ (f : Addr) (cdv : Value) (A : Around) (outer : List Env) (s : Shared) (H : Hp) (vs : List V) (Q : VK) (E : XK), Room k (A.deeper (envOfC qual (defScope st) s.heap.objs.size f cdv)) → sp vs H Q E →
      ∃ t, PSs (cxOf CX0 P w K mg base N qual (defScope st) f cdv A outer s H E).nox (defBody st) t ∧ t { nx := fun _ H' => Q .non H', rt := Q } (start N vs) H) : Has P w K mg base x (k + 1) ps sp := by
  obtain ⟨f, fd, hm, F⟩ := F.ex
  exact ⟨f, fd, hm, F.kp, F.binds hb, F.ok S len (hbody f)⟩
theorem Has.mono {x : Str} {j k : Nat} {ps : List Str} {sp : Sp} (h : Has P w K mg base x j ps sp) (hk : j ≤ k) : Has P w K mg base x k ps sp := by
  obtain ⟨f, fd, a, b, c, d⟩ := h.ex
  exact ⟨f, fd, a, b, c, d.mono hk⟩
theorem Has.imp {x : Str} {k : Nat} {ps : List Str} {sp sp' : Sp} (h : Has P w K mg base x k ps sp) (i : ∀ vs H Q E, sp' vs H Q E → sp vs H Q E) : Has P w K mg base x k ps sp' := by
  obtain ⟨f, fd, a, b, c, d⟩ := h.ex
  exact ⟨f, fd, a, b, c, d.imp i⟩
end
section
variable {X : Cx} {x : Str} {k : Nat} {ps : List Str} {sp : Sp} {p pos : Pos} {e : Expr} {es : List Expr} {t : TA}
/-- f(e, ..) -/
theorem pe_has (h : Has X.prog X.w X.K X.mg X.base x k ps sp) (hr : Room k X.A) (ha : PA X (e :: es) t) (hg : Gl X x := by rfl) (hdb : (x == ("__debug__" : Str)) = false := by decide)
    (he : starEach (e :: es) X.env = (false, eval e X.env) :: starEach es X.env := by rfl) (hpl : (backTo pos (starEach es X.env)).any (·.1) = false := by rfl) :
    PE X (.Call (.Name x p) (e :: es) [] pos) (tCall sp [] E0 t) := by
  obtain ⟨f, fd, hm, hk, hb, F⟩ := h.ex
  exact pe_call F hr hg hm hk hb .nil pass0 ha hdb he hpl
end
/-! ### a class's def -/
structure MethAt (K : PySem.W.Frag) (C : Addr) (m qual : Str) (st : Stmt) : Prop where
  ex : ∃ (f : Addr) (fd : FuncData), Meth K C m f ∧ Fun K m qual st f fd
structure HasM (P : Program) (w : World) (K : PySem.W.Frag) (mg : Str → Option Value) (base : Heap) (C : Addr) (m : Str) (k : Nat) (ps : List Str) (sp : Sp) : Prop where
  ex : ∃ (f : Addr) (fd : FuncData), Meth K C m f ∧ Binds K fd ps [] ∧ FnOk P w K mg base CX0 k f fd ps sp
structure PropAt (K : PySem.W.Frag) (C : Addr) (m qual : Str) (st : Stmt) : Prop where
  ex : ∃ (p g : Addr) (fd : FuncData), PropOf K C m p g ∧ Fun K m qual st g fd
structure HasP (P : Program) (w : World) (K : PySem.W.Frag) (mg : Str → Option Value) (base : Heap) (C : Addr) (m : Str) (k : Nat) (sp : Sp) : Prop where
  ex : ∃ (p g : Addr) (fd : FuncData), PropOf K C m p g ∧ Binds K fd ["self"] [] ∧ FnOk P w K mg base CX0 k g fd ["self"] sp
section
variable {P : Program} {w : World} {K : PySem.W.Frag} {mg : Str → Option Value} {base : Heap} {C : Addr}
theorem hasM_of {m qual : Str} {st : Stmt} {N ps : List Str} {k : Nat} {sp : Sp} (F : MethAt K C m qual st) (S : FnScope N ps (defScope st))
    (hb : ∀ (kV doc pm : Value) (an : Option Addr) (cdv ct : Value) (us : List Value), us.length = ps.length → bindArgs (PySem.W.fnOf m qual (defArgs st) (defBody st) (defScope st) .none kV doc pm an cdv ct) ⟨us, []⟩ = pure (ps.zip us))
    (len : ∀ vs H Q E, sp vs H Q E → vs.length = ps.length)
    (hbody : ∀ (f : Addr) (cdv : Value) (A : Around) (outer : List Env) (s : Shared) (H : Hp) (vs : List V) (Q : VK) (E : XK), Room k (A.deeper (envOfC qual (defScope st) s.heap.objs.size f cdv)) → sp vs H Q E →
      ∃ t, PSs (cxOf CX0 P w K mg base N qual (defScope st) f cdv A outer s H E).nox (defBody st) t ∧ t { nx := fun _ H' => Q .non H', rt := Q } (start N vs) H) : HasM P w K mg base C m (k + 1) ps sp := by
  obtain ⟨f, fd, hm, F⟩ := F.ex
  exact ⟨f, fd, hm, F.binds hb, F.ok S len (hbody f)⟩
theorem hasP_of {m qual : Str} {st : Stmt} {N : List Str} {k : Nat} {sp : Sp} (F : PropAt K C m qual st) (S : FnScope N ["self"] (defScope st))
    (hb : ∀ (kV doc pm : Value) (an : Option Addr) (cdv ct : Value) (us : List Value), us.length = (["self"] : List Str).length → bindArgs (PySem.W.fnOf m qual (defArgs st) (defBody st) (defScope st) .none kV doc pm an cdv ct) ⟨us, []⟩ = pure ((["self"] : List Str).zip us))
    (len : ∀ vs H Q E, sp vs H Q E → vs.length = (["self"] : List Str).length)
    (hbody : ∀ (f : Addr) (cdv : Value) (A : Around) (outer : List Env) (s : Shared) (H : Hp) (vs : List V) (Q : VK) (E : XK), Room k (A.deeper (envOfC qual (defScope st) s.heap.objs.size f cdv)) → sp vs H Q E →
      ∃ t, PSs (cxOf CX0 P w K mg base N qual (defScope st) f cdv A outer s H E).nox (defBody st) t ∧ t { nx := fun _ H' => Q .non H', rt := Q } (start N vs) H) : HasP P w K mg base C m (k + 1) sp := by
  obtain ⟨p, g, fd, hm, F⟩ := F.ex
  exact ⟨p, g, fd, hm, F.binds hb, F.ok S len (hbody g)⟩
end
section
variable {X : Cx} {C : Addr} {m : Str} {k : Nat} {ps : List Str} {sp : Sp} {apos pos : Pos} {o e : Expr} {es : List Expr} {ta : TE} {t : TA}
theorem pe_hasP (h : HasP X.prog X.w X.K X.mg X.base C m k sp) (c : Cls X.K C) (hr : Room (k + 1) X.A) (ho : PE X o ta) (hab : attributeBase o m X.env (eval o X.env) = eval o X.env := by rfl) :
    PE X (.Attribute o m pos) (tProp C sp [] E0 ta) := by
  obtain ⟨p, g, fd, hp, hb, F⟩ := h.ex
  exact pe_prop ho c hp F hr hb .nil pass0 hab
end
end L2
namespace L2
open PySem PySem.Spec PyProof.Rows
/-! ### an own class: what isinstance, ==, the arithmetic signs ask -/
structure OwnC (K : PySem.W.Frag) (C : Addr) : Prop where
  cl : Cls K C
  ca : PySem.W.findIn K (.ref C) "__class__" = some (some (.builtin "object.__class__"))
  cn : PySem.W.specialIn K (.builtin "object.__class__") "__get__" = some (some (.builtin "getset_descriptor.__get__"))
  ct : PySem.W.takesIn K (.builtin "object.__class__") = some true
  mo : PySem.W.mroIn K C (.type "object") = some true
  ic : PySem.W.isClsIn K C = true
  tc : PySem.W.typeIn K (.ref C) = some (.type "type")
theorem OwnC.ty {K : PySem.W.Frag} {C : Addr} (o : OwnC K C) {H : Hp} {a dx : Addr} {fs : List (Str × V)} (e : H a = some (.ins C dx fs)) : TyX K H (.ref a) (.ref C) := .base (.ins e o.cl o.ca o.cn o.ct o.mo)
theorem kit_self {K : PySem.W.Frag} {t : Value} : PySem.W.kitOne K t t = some true := by
  unfold PySem.W.kitOne
  rw [if_pos (by simp)]
theorem OwnC.kit {K : PySem.W.Frag} {C : Addr} (o : OwnC K C) {T : String} {b : Bool} (h : PySem.W.subIn K (.type T) (.ref C) = some b) : PySem.W.kitOne K (.type T) (.ref C) = some b := by
  unfold PySem.W.kitOne PySem.W.kitCls
  have e : (Value.type T == Value.ref C) = false := Bool.eq_false_iff.mpr fun q => by cases beq_iff_eq.mp q
  have h1 : (PySem.W.clsIn K C).isSome = true := o.ic
  rw [if_neg (by rw [e]; decide)]
  show (if ((PySem.W.clsIn K C).isSome && PySem.W.typeIn K (.ref C) == some (.type "type")) = true then _ else _) = _
  rw [if_pos (by rw [h1, o.tc]; simp)]
  exact h
theorem notFirst_self {K : PySem.W.Frag} {C : Addr} : PySem.W.notFirst K C (.ref C) = true := by
  unfold PySem.W.notFirst
  simp
theorem notFirst_ty {K : PySem.W.Frag} {C : Addr} {T : String} (h : PySem.W.subIn K (.type T) (.ref C) = some false) : PySem.W.notFirst K C (.type T) = true := by
  unfold PySem.W.notFirst
  rw [h]
  simp
/-! ### a def with defaults -/
structure HasK (P : Program) (w : World) (K : PySem.W.Frag) (mg : Str → Option Value) (base : Heap) (x : Str) (C : Addr) (k : Nat) (ps : List Str) (sp : Sp) (dvs : List V) : Prop where
  ex : ∃ (f : Addr) (fd : FuncData) (ds : List Value), mg x = some (.ref C) ∧ Mk K C f ∧ Binds K fd ps ds ∧ Vals dvs ds ∧ FnOk P w K mg base CX0 k f fd ps sp
/-- a new instance: what __init__ promises of it, told of the call -/
def tNew (R : List V → Hp → VK → Prop) (t : TA) : TE := fun σ H Q => t σ H fun vs H1 => R vs H1 Q
section
variable {X : Cx} {x : Str} {C : Addr} {k : Nat} {ps : List Str} {sp : Sp} {dvs : List V} {p pos : Pos} {e : Expr} {es : List Expr} {t : TA}
theorem PE.imp {e : Expr} {t t' : TE} (h : PE X e t) (i : ∀ σ H Q, t' σ H Q → t σ H Q) : PE X e t' := ⟨fun pins s σ H Q I q => h.run pins s σ H Q I (i σ H Q q)⟩
theorem pe_hasK (h : HasK X.prog X.w X.K X.mg X.base x C k ps sp dvs) (hr : Room (k + 1) X.A) (ha : PA X (e :: es) t) (hg : Gl X x := by rfl) (hdb : (x == ("__debug__" : Str)) = false := by decide)
    (he : starEach (e :: es) X.env = (false, eval e X.env) :: starEach es X.env := by rfl) (hpl : (backTo pos (starEach es X.env)).any (·.1) = false := by rfl) :
    PE X (.Call (.Name x p) (e :: es) [] pos) (tMake C sp dvs E0 t) := by
  obtain ⟨f, fd, ds, hm, M, hb, hd, F⟩ := h.ex
  exact pe_make M F hr hg hm hb hd pass0 ha hdb he hpl
theorem pe_hasK0 (h : HasK X.prog X.w X.K X.mg X.base x C k ps sp dvs) (hr : Room (k + 1) X.A) (hg : Gl X x := by rfl) (hdb : (x == ("__debug__" : Str)) = false := by decide) :
    PE X (.Call (.Name x p) [] [] pos) (tMake C sp dvs E0 tNil) := by
  obtain ⟨f, fd, ds, hm, M, hb, hd, F⟩ := h.ex
  exact pe_make0 M F hr hg hm hb hd pass0 hdb
end
end L2
namespace L2
open PySem PySem.Spec PyProof.Rows
theorem lk_hd {f : Str} {v : V} {r : List (Str × V)} : ((f, v) :: r).lookup f = some v := by simp [List.lookup]
theorem lk_tl {f g : Str} {v : V} {r : List (Str × V)} {o : Option V} (h : ¬ f = g) (k : r.lookup f = o) : ((g, v) :: r).lookup f = o := by
  have e : (f == g) = false := by simpa using h
  simp [List.lookup, e, k]
theorem putF_new {f : Str} {v : V} : ∀ {r : List (Str × V)}, (∀ q ∈ r, ¬ q.1 = f) → putF f v r = r ++ [(f, v)]
  | [], _ => rfl
  | (g, x) :: r, h => by
    show (if g = f then (g, v) :: r else (g, x) :: putF f v r) = _
    rw [if_neg (h (g, x) List.mem_cons_self), putF_new fun q hq => h q (List.mem_cons_of_mem _ hq)]
    rfl
/-- a class's def with defaults, made by its name -/
structure InitAt (K : PySem.W.Frag) (mg : Str → Option Value) (x : Str) (C : Addr) (qual : Str) (st : Stmt) (dvs : List V) (kws : List (Str × V)) : Prop where
  ex : ∃ (f : Addr) (fd : FuncData), mg x = some (.ref C) ∧ Mk K C f ∧ FunD K "__init__" qual (defArgs st) (defBody st) (defScope st) dvs kws f fd
/-- the same as a method -/
structure MethD (K : PySem.W.Frag) (C : Addr) (m qual : Str) (st : Stmt) (dvs : List V) (kws : List (Str × V)) : Prop where
  ex : ∃ (f : Addr) (fd : FuncData), Meth K C m f ∧ FunD K m qual (defArgs st) (defBody st) (defScope st) dvs kws f fd
structure HasD (P : Program) (w : World) (K : PySem.W.Frag) (mg : Str → Option Value) (base : Heap) (C : Addr) (m : Str) (k : Nat) (ps : List Str) (sp : Sp) (dvs : List V) : Prop where
  ex : ∃ (f : Addr) (fd : FuncData) (ds : List Value), Meth K C m f ∧ Binds K fd ps ds ∧ Vals dvs ds ∧ FnOk P w K mg base CX0 k f fd ps sp
section
variable {X : Cx} {C : Addr} {m : Str} {k : Nat} {ps : List Str} {sp : Sp} {dvs : List V} {apos pos : Pos} {o e : Expr} {es : List Expr} {ta : TE} {t : TA} {pl : Sem Bool}
theorem pe_hasD (h : HasD X.prog X.w X.K X.mg X.base C m k ps sp dvs) (c : Cls X.K C) (hr : Room k X.A) (ho : PE X o ta) (ha : PA X (e :: es) t)
    (hst : starEach (e :: es) X.env = (false, eval e X.env) :: starEach es X.env := by rfl) (hpl : (backTo pos (starEach es X.env)).any (·.1) = false := by rfl)
    (ht : eval (.Call (.Attribute o m apos) (e :: es) [] pos) X.env = (do
      let ov ← eval o X.env
      standAt apos.atName
      let (f, first) ← holding [ov] (getMethod ov m pl)
      callWith pos f first (backTo pos (starEach (e :: es) X.env)) (backToKw pos (keywordEach [] X.env))) := by rfl) :
    PE X (.Call (.Attribute o m apos) (e :: es) [] pos) (tMeth C m sp dvs E0 ta t) := by
  obtain ⟨f, fd, ds, hm, hb, hd, F⟩ := h.ex
  exact pe_meth ho c hm F hr hb hd pass0 ha hst hpl ht
theorem pe_hasM (h : HasM X.prog X.w X.K X.mg X.base C m k ps sp) (c : Cls X.K C) (hr : Room k X.A) (ho : PE X o ta) (ha : PA X (e :: es) t)
    (hst : starEach (e :: es) X.env = (false, eval e X.env) :: starEach es X.env := by rfl) (hpl : (backTo pos (starEach es X.env)).any (·.1) = false := by rfl)
    (ht : eval (.Call (.Attribute o m apos) (e :: es) [] pos) X.env = (do
      let ov ← eval o X.env
      standAt apos.atName
      let (f, first) ← holding [ov] (getMethod ov m pl)
      callWith pos f first (backTo pos (starEach (e :: es) X.env)) (backToKw pos (keywordEach [] X.env))) := by rfl) :
    PE X (.Call (.Attribute o m apos) (e :: es) [] pos) (tMeth C m sp [] E0 ta t) := by
  obtain ⟨f, fd, hm, hb, F⟩ := h.ex
  exact pe_meth ho c hm F hr hb .nil pass0 ha hst hpl ht
end
end L2
namespace L2
open PySem PySem.Spec PyProof.Rows
theorem Same.st {K : PySem.W.Frag} {H H' : Hp} {a : Addr} {xs : List V} (e : Same H H') (h : SqT K H a xs) : SqT K H' a xs := by
  rcases h with (h | ⟨o, h⟩) | h
  · exact .inl (.inl (e _ _ h))
  · exact .inl (.inr ⟨o, e _ _ h⟩)
  · exact .inr h
end L2
namespace L2
open PySem PySem.Spec PyProof.Rows
theorem Same.mut {H H' : Hp} {p : Addr} {o : HO} (e : Same H H') (h : H p = none) : Same H (upd H' p o) := fun a u ha => by
  rw [upd_ne (ne_of_none ha h)]
  exact e a u ha
theorem walk_zipT {K : PySem.W.Frag} {a b : Addr} {xs ys : List V} {n : Nat} (hn : n = min xs.length ys.length) : Walk (RZ.ItzT K a b) n (fun H => SqT K H a xs ∧ SqT K H b ys) (YPair (fun i => xs[i]?) (fun i => ys[i]?)) := by
  subst hn
  refine ⟨fun i _ hi q => ?_, fun _ q => ⟨xs, ys, q.1, q.2, by omega⟩, fun i H v H' _ q y => ?_⟩
  · have h1 : i < xs.length := by omega
    have h2 : i < ys.length := by omega
    exact ⟨xs, ys, xs[i], ys[i], q.1, q.2, by simp [h1], by simp [h2]⟩
  · obtain ⟨T, x, z, h1, h2, h3, h4, h5⟩ := y
    exact ⟨T, x, z, h1, h2, h3, h4 xs q.1, h5 ys q.2⟩
/-- a comprehension without a test whose element leaves what was tracked: the new list of val 0, val 1, .. -/
theorem lc_map {J : It} {n : Nat} {G : Hp → Prop} {Y : Nat → Hp → V → Hp → Prop} (w : Walk J n G Y) {g : TG} {te : TE} {vs : List Nat} {σ : St} {H1 : Hp} {D : Addr} {Qd : Hp → Prop} (val : Nat → V) (nD : H1 D = none) (hn : n < 1000000)
    (hG : ∀ H, Same H1 H → G H)
    (hs : ∀ i x H H', i < n → Same H1 H → Y i H x H' → ∀ R : V → Hp → Prop, (∀ H4, Same H H4 → R (val i) H4) → g x (wipe σ vs) H' fun σ2 H2 => wipe σ2 vs = wipe σ vs ∧ te σ2 H2 R)
    (hd : ∀ H, Same H1 H → H D = some (.lst ((List.range n).map val)) → Qd H) :
    ∃ W : Nat → Nat → Hp → Prop, (∃ m, W 0 m (upd H1 D (.lst []))) ∧ ∀ i m H, W i m H →
      (J.stop i H ∧ Qd H) ∨ (J.go i H ∧ ∃ Nx : Hp → Prop, (∀ H', Nx H' → ∃ m', m' < m ∧ W (i + 1) m' H') ∧ ∀ x H', J.yld i H x H' → g x (wipe σ vs) H' fun σ2 H2 => wipe σ2 vs = wipe σ vs ∧ tYes σ2 H2 fun b H3 =>
        if b = true then te σ2 H3 fun y H4 => ∃ acc, H4 D = some (.lst acc) ∧ acc.length < sizeLine ∧ Nx (upd H4 D (.lst (acc ++ [y]))) else Nx H3) := by
  refine lc_it w (fun i H => Same H1 H ∧ H D = some (.lst ((List.range i).map val))) ⟨fun b o h => by rw [upd_ne (ne_of_none h nD)]; exact h, upd_same⟩ (fun i H _ p => hG H p.1) ?_ (fun H p => hd H p.1 p.2)
  rintro i x H H' hi ⟨p1, p2⟩ y
  have h := hs i x H H' hi p1 y (fun y' H4 => ∃ acc, H4 D = some (.lst acc) ∧ acc.length < sizeLine ∧ (Same H1 (upd H4 D (.lst (acc ++ [y']))) ∧ (upd H4 D (.lst (acc ++ [y']))) D = some (.lst ((List.range (i + 1)).map val)))) fun H4 s4 => by
    refine ⟨_, s4 _ _ p2, ?_, (p1.trans s4).mut nD, ?_⟩
    · rw [List.length_map, List.length_range]
      exact Nat.lt_of_lt_of_le (by omega : i < 1000000) (by decide)
    · rw [List.range_succ, List.map_append]
      exact upd_same
  exact h
end L2
namespace L2
open PySem PySem.Spec PyProof.Rows
/-! ### rules whose reading names the written part, for a comprehension's block -/
section
variable {X : Cx}
theorem pg_tupK (K : PySem.W.Frag) (n : Nat) (hK : X.K = K := by rfl) {es : List Expr} {k : Nat} {t : TGs} {pos : Pos} (hc : X.calm = true) (h : PGs X es t)
    (hn : (assignEach es X.env).length = n := by rfl) (hst : (assignEach es X.env).findIdx? (·.1) = none := by rfl) : PG X (.Tuple es k pos) (gTup K n t) := by
  subst hK
  exact pg_tup hc h hn hst
theorem ix_listK (K : PySem.W.Frag) (hK : X.K = K := by rfl) : IxR X (rIxL K) := by
  subst hK
  exact ix_list
theorem ix_tupK (K : PySem.W.Frag) (hK : X.K = K := by rfl) : IxR X (rIxT K) := by
  subst hK
  exact ix_tup
theorem pe_fldK (K : PySem.W.Frag) {e : Expr} {ta : TE} {f : Str} {pos : Pos} (he : PE X e ta) (hb : attributeBase e f X.env (eval e X.env) = eval e X.env) (hK : X.K = K := by rfl) : PE X (.Attribute e f pos) (tFld K ta f) := by
  subst hK
  exact pe_fld he hb
end
end L2
namespace L2
open PySem PySem.Spec PyProof.Rows
/-! ### the end: what the top has written, read off the written part -/
section
variable {K : PySem.W.Frag} {mg : Str → Option Value} {h : Heap}
theorem funAt_mk {x qual : Str} {st : Stmt} {f : Addr} {oc : Value} {od an : Option Addr} {osl : Array (Option Value)} {kV doc pm cdv ct : Value} (X : K.In h) (G : h.Ns mainGlobals mg) (a : PySem.W.nsIn K mainGlobals x = some (some (.ref f)))
    (l : K.lookup f = some ⟨oc, od, .func (PySem.W.fnOf x qual (defArgs st) (defBody st) (defScope st) .none kV doc pm an cdv ct), osl⟩) (c : PySem.W.codeIn K cdv qual = true) (k : PySem.W.keepIn K (.ref f) = true) : FunAt K mg x qual st :=
  ⟨f, _, PySem.W.mg_of X G a, fun_mk l c k⟩
theorem methAt_mk {C : Addr} {m qual : Str} {st : Stmt} {f : Addr} {oc : Value} {od an : Option Addr} {osl : Array (Option Value)} {kV doc pm cdv ct : Value} (a : PySem.W.findIn K (.ref C) m = some (some (.ref f))) (i : PySem.W.isFn K (.ref f) = true)
    (l : K.lookup f = some ⟨oc, od, .func (PySem.W.fnOf m qual (defArgs st) (defBody st) (defScope st) .none kV doc pm an cdv ct), osl⟩) (c : PySem.W.codeIn K cdv qual = true) (k : PySem.W.keepIn K (.ref f) = true) : MethAt K C m qual st :=
  ⟨f, _, ⟨a, i, k⟩, fun_mk l c k⟩
theorem propAt_mk {C : Addr} {m qual : Str} {st : Stmt} {p g : Addr} {rest : List Value} {oc : Value} {od an : Option Addr} {osl : Array (Option Value)} {kV doc pm cdv ct : Value} (a : PySem.W.findIn K (.ref C) m = some (some (.ref p)))
    (b : PySem.W.specialIn K (.ref p) "__get__" = some (some (.builtin "property.__get__"))) (t : PySem.W.takesIn K (.ref p) = some true) (r : PySem.W.recIn K p "property" = some (.ref g :: rest))
    (l : K.lookup g = some ⟨oc, od, .func (PySem.W.fnOf m qual (defArgs st) (defBody st) (defScope st) .none kV doc pm an cdv ct), osl⟩) (c : PySem.W.codeIn K cdv qual = true) (k : PySem.W.keepIn K (.ref g) = true) : PropAt K C m qual st :=
  ⟨p, g, _, ⟨a, b, t, rest, r⟩, fun_mk l c k⟩
theorem funD_mk {x qual : Str} {st : Stmt} {f T : Addr} {dvs : List V} {oc tc : Value} {od an td : Option Addr} {osl tsl : Array (Option Value)} {kV doc pm cdv ct : Value} {its : List Value} {n : Nat}
    (l : K.lookup f = some ⟨oc, od, .func (PySem.W.fnOf x qual (defArgs st) (defBody st) (defScope st) (.ref T) kV doc pm an cdv ct), osl⟩) (c : PySem.W.codeIn K cdv qual = true) (k : PySem.W.keepIn K (.ref f) = true)
    (t : K.lookup T = some ⟨tc, td, .seq its.toArray n, tsl⟩) (v : Vals dvs its) (hd : dvs ≠ []) : FunD K x qual (defArgs st) (defBody st) (defScope st) dvs [] f (PySem.W.fnOf x qual (defArgs st) (defBody st) (defScope st) (.ref T) kV doc pm an cdv ct) :=
  ⟨⟨oc, od, .ref T, kV, doc, pm, an, cdv, ct, osl, rfl, l, c, .inr ⟨hd, T, _, its, n, rfl, t, rfl, v⟩, .inl rfl⟩, k⟩
theorem initAt_mk {x : Str} {C f : Addr} {qual : Str} {st : Stmt} {dvs : List V} {kws : List (Str × V)} {fd : FuncData} (X : K.In h) (G : h.Ns mainGlobals mg) (g : PySem.W.nsIn K mainGlobals x = some (some (.ref C)))
    (m : PySem.W.makesIn K C = true) (i : PySem.W.findIn K (.ref C) "__init__" = some (some (.ref f))) (n : PySem.W.isFn K (.ref f) = true) (k : PySem.W.keepIn K (.ref C) = true)
    (F : FunD K "__init__" qual (defArgs st) (defBody st) (defScope st) dvs kws f fd) : InitAt K mg x C qual st dvs kws := ⟨f, fd, PySem.W.mg_of X G g, ⟨m, i, n, k⟩, F⟩
theorem methD_mk {C f : Addr} {m qual : Str} {st : Stmt} {dvs : List V} {kws : List (Str × V)} {fd : FuncData} (a : PySem.W.findIn K (.ref C) m = some (some (.ref f))) (i : PySem.W.isFn K (.ref f) = true) (k : PySem.W.keepIn K (.ref f) = true)
    (F : FunD K m qual (defArgs st) (defBody st) (defScope st) dvs kws f fd) : MethD K C m qual st dvs kws := ⟨f, fd, ⟨a, i, k⟩, F⟩
theorem ownC_mk {C : Addr} (pg : PySem.W.plainGet K C Str.empty = true) (hd : PySem.W.hasDictIn K C = true) (po : PySem.W.plainOver K C = true) (sa : PySem.W.findIn K (.ref C) "__setattr__" = some (some (.builtin "object.__setattr__")))
    (ca : PySem.W.findIn K (.ref C) "__class__" = some (some (.builtin "object.__class__"))) (cn : PySem.W.specialIn K (.builtin "object.__class__") "__get__" = some (some (.builtin "getset_descriptor.__get__")))
    (ct : PySem.W.takesIn K (.builtin "object.__class__") = some true) (mo : PySem.W.mroIn K C (.type "object") = some true) (ic : PySem.W.isClsIn K C = true) (tc : PySem.W.typeIn K (.ref C) = some (.type "type")) : OwnC K C :=
  ⟨⟨pg, hd, po, sa⟩, ca, cn, ct, mo, ic, tc⟩
end
end L2

set_option maxHeartbeats 4000000
namespace L2
open PySem PySem.Spec PyProof.Rows
section
variable {X : Cx}
/-- d.update(e), two dicts of written keys -/
def rUpdate : V → List V → Hp → VK → Prop := fun x vs H Q => ∃ (d o : Addr) (ks ls : List (Key × V)), x = .ref d ∧ vs = [.ref o] ∧ d ≠ o ∧ H d = some (.dK ks) ∧ H o = some (.dK ls) ∧
  ks.length + ls.length ≤ sizeLine ∧ Q .non (upd H d (.dK (mergeK ks ls)))
theorem mt_update : MtR X "dict.update" rUpdate := by
  intro pins s σ H x vs v us Q I rx rv h
  obtain ⟨d, o, ks, ls, rfl, rfl, ne, ed, eo, z, q⟩ := h
  cases (show v = Value.ref d from rx)
  obtain ⟨u, rfl, ru⟩ := rv.one
  cases (show u = Value.ref o from ru)
  obtain ⟨z1, nd, xs, rel, dd⟩ := dk_of I.hok ed
  obtain ⟨z2, no, ys, rel2, dd2⟩ := dk_of I.hok eo
  have le : (mergeK ks ls).length ≤ sizeLine := Nat.le_trans (length_mergeK ls ks) z
  refine call_meetsIn PySem.F.slot_dict_update dd.typeIs PySem.F.entry_dict_update (PySem.F.args_dict_update_2 _ _) (meets_dict_update (mixKind X.prog X.w) d o ne no)
    ⟨xs, ys, dd, dd2, by rw [← rel.length, ← rel2.length]; exact z, fun h' dd' _ hs => ?_⟩
  obtain ⟨_, _, _, hq, _⟩ := id dd'
  exact ⟨.non, _, d_write (t' := s.toks) I (by rw [ed]; exact True.intro) hs ⟨_, hq⟩ (dk_new le nd (KV.merge rel2 rel) dd'), rfl, q⟩
/-- d == {} -/
def rEqNone : R2 := fun x y H Q => ∃ (a b : Addr) (ks : List (Key × V)), x = .ref a ∧ y = .ref b ∧ H a = some (.dK ks) ∧ H b = some (.dK []) ∧ Q (.bl ks.isEmpty) H
theorem op_eqNone (hu : X.A.units < cLine) : OpR X (compareOp .Eq) rEqNone := by
  intro pins s σ H x y v u Q I rx ry h
  obtain ⟨a, b, ks, rfl, rfl, ea, eb, q⟩ := h
  cases (show v = Value.ref a from rx)
  cases (show u = Value.ref b from ry)
  obtain ⟨_, ya, va, ra, da⟩ := dk_of I.hok ea
  obtain ⟨_, yb, vb, rb, db⟩ := dk_of I.hok eb
  cases rb
  refine PySem.W.keq_eq (r := true) ya yb da db hu (fun l => ?_) (fin_bl I q ?_)
  · cases va with
    | nil => exact .nil
    | cons => cases l
  · cases ra <;> rfl
end
end L2

set_option maxHeartbeats 4000000
/-! defs that are called where no container is being told (no guard stands): such a def may ask repr of lists and tuples -/
namespace L2
open PySem PySem.Spec PyProof.Rows
def Calm (A : Around) : Prop := A.guards = some []
structure FnG (P : Program) (w : World) (K : PySem.W.Frag) (mg : Str → Option Value) (base : Heap) (CX : CXT) (k : Nat)
    (f : Addr) (fd : FuncData) (ps : List Str) (sp : Sp) : Prop where
  len : ∀ vs H Q E, sp vs H Q E → vs.length = ps.length
  run : ∀ (A : Around) (outer : List Env) (s : Shared) (H : Hp) (args : Args) (us : List Value) (vs : List V) (Q : VK) (E : XK),
    Room k A → Calm A → Env0 P w K mg base A outer s H → BindsTo s fd args (ps.zip us) → Vals vs us → sp vs H Q E →
    codeAny (model P w) A (.call (.ref f) args) (CR CX outer P w H s Q E) s
section
variable {P : Program} {w : World} {K : PySem.W.Frag} {mg : Str → Option Value} {base : Heap} {CX : CXT} {k : Nat}
variable {f : Addr} {fd : FuncData} {ps : List Str} {sp sp' : Sp}
theorem FnG.of (F : FnOk P w K mg base CX k f fd ps sp) : FnG P w K mg base CX k f fd ps sp :=
  ⟨F.len, fun A o s H args us vs Q E hr _ => F.run A o s H args us vs Q E hr⟩
theorem FnG.mono {j : Nat} (F : FnG P w K mg base CX j f fd ps sp) (h : j ≤ k) : FnG P w K mg base CX k f fd ps sp :=
  ⟨F.len, fun A o s H args us vs Q E hr => F.run A o s H args us vs Q E (hr.mono h)⟩
/-- a def by its body, where no guard stands -/
theorem Fun.okG {x qual : Str} {st : Stmt} {N : List Str} (F : Fun K x qual st f fd) (S : FnScope N ps (defScope st)) (len : ∀ vs H Q E, sp vs H Q E → vs.length = ps.length)
    (body : ∀ (cdv : Value) (A : Around) (outer : List Env) (s : Shared) (H : Hp) (vs : List V) (Q : VK) (E : XK),
      Calm (A.deeper (envOfC qual (defScope st) s.heap.objs.size f cdv)) → Room k (A.deeper (envOfC qual (defScope st) s.heap.objs.size f cdv)) → sp vs H Q E →
      ∃ t, PSs (cxOf CX0 P w K mg base N qual (defScope st) f cdv A outer s H E).nox (defBody st) t ∧ t { nx := fun _ H' => Q .non H', rt := Q } (start N vs) H) :
    FnG P w K mg base CX0 (k + 1) f fd ps sp := by
  obtain ⟨oc, od, kV, doc, pm, an, cdv, ct, osl, rfl, lk, hcd⟩ := F.ex
  refine ⟨len, fun A outer s H args us vs Q E hr hG e0 hb r hsp => ?_⟩
  have KX : K.In s.heap := e0.mod.kin.keeps fun b o e => (e0.bs b o e).1
  have nl : s.heap.NoLimit := e0.mod.nolimit.keeps fun b o e => (e0.bs b o e).1
  have kinds : ∀ y ∈ ps.zip us, (defScope st).names.lookup y.1 = some .local ∨ ((defScope st).names.lookup y.1 = some .cell ∧ ((cellsFrom (s.heap.objs.size + 1) (defScope st).names []).lookup y.1).isSome = true) := by
    rintro ⟨n, v⟩ hy
    exact (S.par n (List.of_mem_zip hy).1).imp id fun q => ⟨q, PySem.W.cellsFrom_some _ _ _ (.inl q)⟩
  refine codeAny_call_function hr.depth (KX _ _ lk) rfl S.co S.gen rfl (PySem.W.codeRec_of KX hcd) (hb _ _ _ _ (wpAny_newFunctionEnv_cells S.kind kinds fun env he s1 x => ?_))
  cases he
  obtain ⟨t, ht, hq⟩ := body cdv A outer s H vs Q E hG (hr.deeper _) hsp
  have I := inv_start (CX := CX0) (P := P) (w := w) (K := K) (mg := mg) (base := base) (qual := qual) (cd := cdv) (E := E) S hr.hd e0 (len _ _ _ _ hsp) r x
  refine ⟨nl.keeps x.toInCall.keep, codeAny_func (wpAny_mono (ht.nox.run [] s1 (start N vs) H _ I hq) (fun fl s' hs => ?_) fun _ _ z => z)⟩
  have fin : ∀ {σ' : St} {H' : Hp} {v : V} {u : Value}, Inv (cxOf CX0 P w K mg base N qual (defScope st) f cdv A outer s H E) [] σ' H' s' → RelV v u → Q v H' → CE outer P w H s Q u s' :=
    fun J rv q => ⟨_, _, J.os, J.bare, J.base, J.hok, rv, q⟩
  match fl, hs with
  | .ret u, ⟨v, σ', H', J, rv, q⟩ => exact fin J rv q
  | .next, ⟨σ', H', J, q⟩ => exact fin (v := V.non) (u := Value.none) J rfl q
  | .brk, ⟨_, _, _, q⟩ => exact q.elim
  | .cont, ⟨_, _, _, q⟩ => exact q.elim
end
/-- a def of the module under its name, its promise where no guard stands -/
structure HasG (P : Program) (w : World) (K : PySem.W.Frag) (mg : Str → Option Value) (base : Heap) (x : Str) (k : Nat) (ps : List Str) (sp : Sp) : Prop where
  ex : ∃ (f : Addr) (fd : FuncData), mg x = some (.ref f) ∧ PySem.W.keepIn K (.ref f) = true ∧ Binds K fd ps [] ∧ FnG P w K mg base CX0 k f fd ps sp
section
variable {P : Program} {w : World} {K : PySem.W.Frag} {mg : Str → Option Value} {base : Heap} {x : Str} {k : Nat} {ps : List Str} {sp : Sp}
theorem HasG.of (h : Has P w K mg base x k ps sp) : HasG P w K mg base x k ps sp := let ⟨f, fd, a, b, c, d⟩ := h.ex; ⟨f, fd, a, b, c, .of d⟩
theorem hasG_of {qual : Str} {st : Stmt} {N : List Str} (F : FunAt K mg x qual st) (S : FnScope N ps (defScope st))
    (hb : ∀ (kV doc pm : Value) (an : Option Addr) (cdv ct : Value) (us : List Value), us.length = ps.length → bindArgs (PySem.W.fnOf x qual (defArgs st) (defBody st) (defScope st) .none kV doc pm an cdv ct) ⟨us, []⟩ = pure (ps.zip us))
    (len : ∀ vs H Q E, sp vs H Q E → vs.length = ps.length)
    (body : ∀ (f : Addr) (cdv : Value) (A : Around) (outer : List Env) (s : Shared) (H : Hp) (vs : List V) (Q : VK) (E : XK),
      Calm (A.deeper (envOfC qual (defScope st) s.heap.objs.size f cdv)) → Room k (A.deeper (envOfC qual (defScope st) s.heap.objs.size f cdv)) → sp vs H Q E →
      ∃ t, PSs (cxOf CX0 P w K mg base N qual (defScope st) f cdv A outer s H E).nox (defBody st) t ∧ t { nx := fun _ H' => Q .non H', rt := Q } (start N vs) H) :
    HasG P w K mg base x (k + 1) ps sp := by
  obtain ⟨f, fd, hm, F⟩ := F.ex
  exact ⟨f, fd, hm, F.kp, F.binds hb, F.okG S len (body f)⟩
end
section
variable {X : Cx} {x : Str} {k n : Nat} {f : Addr} {fd : FuncData} {ps : List Str} {sp : Sp} {p pos : Pos} {e : Expr} {es : List Expr} {t : TA} {pins : List (Addr × Obj)} {σ : St} {H : Hp} {s : Shared} {Q : VK}
/-- the callee runs -/
theorem FnG.call {us : List Value} {ws : List V} {E : XK} {CX : CXT} (F : FnG X.prog X.w X.K X.mg X.base CX n f fd ps sp) (hb : Binds X.K fd ps []) (hr : Room n X.A) (hg : Calm X.A) (hx : Passes CX X E) (I : Inv X pins σ H s)
    (r : Vals ws us) (h : sp ws H Q E) : wpAny (model X.prog X.w) X.A (call (.ref f) us) (EP X pins σ Q) X.xe s := by
  have hl : (us ++ []).length = ps.length := by
    rw [List.append_nil, ← F.len _ _ _ _ h, r.length]
  have b := hb s us I.kIn hl
  rw [List.append_nil] at b
  refine wpAny_call (codeAny_mono (F.run X.A X.stack s H ⟨us, []⟩ us ws Q E hr hg I.env0 b r h) fun z s' hq => ?_)
  match z, hq with
  | .error e, hq => exact hx pins σ H s e s' I hq
  | .ok (.ret u), hq => exact I.after hq
/-- f(e, ..) -/
theorem pe_hasG (h : HasG X.prog X.w X.K X.mg X.base x k ps sp) (hr : Room k X.A) (hc : Calm X.A) (ha : PA X (e :: es) t) (hg : Gl X x := by rfl) (hdb : (x == ("__debug__" : Str)) = false := by decide)
    (he : starEach (e :: es) X.env = (false, eval e X.env) :: starEach es X.env := by rfl) (hpl : (backTo pos (starEach es X.env)).any (·.1) = false := by rfl) :
    PE X (.Call (.Name x p) (e :: es) [] pos) (tCall sp [] E0 t) := by
  obtain ⟨f, fd, hm, hk, hb, F⟩ := h.ex
  refine ⟨fun pins s σ H Q I q => wpAny_Call_Name_kw (ld_glob I hg hm ?_ hdb)⟩
  refine PySem.W.callWith_K I.ok.mod.kin hk (thn (ha.run pos pins s σ H _ I q) fun us s1 z => ?_) he hpl
  obtain ⟨vs, H1, I1, r, q1⟩ := z
  exact ⟨I1.kIn, F.call hb hr hc pass0 I1 r (by rw [List.append_nil] at q1; exact q1)⟩
end
end L2

set_option maxHeartbeats 4000000
namespace L2
open PySem PySem.Spec PyProof.Rows
/-- the script, told to the abstract heap: by itself, or as one of the module's own objects -/
theorem script_told {P : Program} {w : World} {K : PySem.W.Frag} {s : Shared} {a : Addr} {vs : List Value} {ns : List Int} (KX : K.In s.heap) (ha : s.heap.get? a = some { cls := .type "list", data := .seq vs.toArray })
    (hi : IntsAre vs ns) (hl : ns.length ≤ sizeLine) :
    ∃ H : Hp, Only H ∧ SqL K H a (ns.map V.int) ∧ HOk P w H s.heap ∧ (∀ b, H b ≠ none → b = a) ∧ (H a ≠ none → K.lookup a = none) := by
  have rv := vals_ints hi
  rcases hk : K.lookup a with _ | o
  · let o : Obj := { cls := .type "list", data := .seq vs.toArray }
    let H : Hp := fun b => if b = a then some (.frz o (.lst (ns.map V.int))) else none
    have at_ : H a = some (.frz o (.lst (ns.map V.int))) := if_pos rfl
    have off : ∀ b, b ≠ a → H b = none := fun b n => if_neg n
    refine ⟨H, fun b => ?_, .inl (.inr ⟨o, at_⟩), fun b u z => ?_, fun b z => ?_, fun _ => rfl⟩
    · rcases Nat.decEq b a with n | n
      · exact .inl (off b n)
      · exact .inr ⟨_, _, n ▸ at_⟩
    · rcases Nat.decEq b a with n | n
      · rw [off b n] at z; cases z
      · subst n
        rw [at_] at z
        cases z
        exact ⟨ha, by rw [List.length_map]; exact hl, vs, _, rv, ha⟩
    · rcases Nat.decEq b a with n | n
      · exact absurd (off b n) z
      · exact n
  · have e := KX a o hk
    rw [ha] at e
    cases e
    exact ⟨fun _ => none, fun _ => .inl rfl, .inr ⟨_, vs.toArray, _, hk, rfl, rfl, rfl, by rw [List.size_toArray, hi.length]; exact hl, by simpa using rv⟩,
      fun b u z => (nomatch (show (none : Option HO) = some u from z)), fun b z => absurd rfl z, fun z => absurd rfl z⟩
/-- the law's promise at the heap behind the top -/
theorem law_callG {P : Program} {w : World} {K : PySem.W.Frag} {mg mb : Str → Option Value} {k : Nat} {fa a : Addr} {fd : FuncData} {x : Str} {sp : Sp} {s : Shared} {vs : List Value} {ns : List Int}
    (KX : K.In s.heap) (hns : s.heap.Ns mainGlobals mg) (hb : s.heap.Ns builtinsNs mb) (hbb : ∀ y : Str, y ≠ "__name__" → mb y = bootBuiltins y) (nl : s.heap.NoLimit) (hg : s.gens = #[])
    (ha : s.heap.get? a = some { cls := .type "list", data := .seq vs.toArray }) (hi : IntsAre vs ns) (hl : ns.length ≤ sizeLine) (hr : Room k callerA)
    (F : ∀ base : Heap, K.In base → base.Ns mainGlobals mg → FnG P w K mg base CX0 k fa fd [x] sp) (bind : ∀ (s : Shared) (u : Value), BindsTo s fd ⟨[u], []⟩ [(x, u)])
    (hsp : ∀ H : Hp, Only H → SqL K H a (ns.map V.int) → sp [.ref a] H (fun v _ => v = .bl true) E0) :
    codeAny (model P w) callerA (.call (.ref fa) ⟨[.ref a], []⟩) (fun r s' => r = .ok (.ret (.bool true)) ∧ OldK s.heap s'.heap ∧ s'.os = s.os ∧ AllBare s'.gens) s := by
  obtain ⟨H, hO, hS, hok, hA, hK⟩ := script_told (P := P) (w := w) KX ha hi hl
  have low : ∀ {b : Addr} {o : Obj}, s.heap.get? b = some o → (b = a → H b = none) → (hidT s.heap H).get? b = some o := fun {b o} e n =>
    hidT_get e (Classical.byContradiction fun q => q (n (hA b q)))
  have dicts : ∀ {b : Addr} {m : Str → Option Value}, s.heap.Ns b m → (hidT s.heap H).Ns b m := fun {b m} n => by
    obtain ⟨o, es, ep, e, d, r⟩ := n
    refine ⟨o, es, ep, low e fun q => ?_, d, r⟩
    subst q
    rw [ha] at e
    cases e
    exact (nomatch (show Data.seq vs.toArray _ = Data.dict es ep from d))
  have hKb : K.In (hidT s.heap H) := fun b o e => low (KX b o e) fun q => by
    subst q
    exact Classical.byContradiction fun z => by rw [hK z] at e; cases e
  obtain ⟨mc, n1, n2⟩ := nl
  have e0 : Env0 P w K mg (hidT s.heap H) callerA [] s H :=
    ⟨rfl, ⟨hKb, dicts hns, ⟨mb, dicts hb, hbb⟩, ⟨mc, dicts n1, n2⟩⟩, fun b o e => of_hidT e, Nat.le_of_eq (hidT_size _ _), trivial, fun b z => (nomatch z), hok, .of_eq hg⟩
  refine codeAny_mono ((F _ hKb (dicts hns)).run callerA [] s H ⟨[.ref a], []⟩ [.ref a] [.ref a] _ _ hr rfl e0 (bind s (.ref a)) (.cons rfl .nil) (hsp H hO hS)) fun r s' h => ?_
  match r, h with
  | .ok (.ret u), ⟨v, H', os, bare, un, hok', rv, (q : v = .bl true)⟩ =>
    subst q
    cases (show u = Value.bool true from rv)
    refine ⟨rfl, OldK.of_keep fun b o e => ?_, os, bare⟩
    rcases hO b with z | ⟨ob, xs, z⟩
    · exact un.keep b o e z (fun m => nomatch m) (fun m => nomatch m)
    · have e1 := (hok b _ z).1
      rw [e] at e1
      cases e1
      exact (hok' b _ (un.frzs b o _ z)).1
/-- THE HEAD -/
theorem walk_ofG {l : PySem.W.OpenLaw} {n k : Nat} {q : Program} {loose : List Str} {XP : (Str → Option Value) → Heap → Prop} {YP : World → Heap → Prop} {d : DefRec} {K : Params → PySem.W.Frag} {sp : World → Sp} {x : Str}
    (hn : l.most = some n) (hn2 : n ≤ sizeLine) (hdf : d.params.defaults = []) (hr : Room k callerA) (hY : ∀ (w : World) (h : Heap), YP w h → (K w.params).In h)
    (F : ∀ (w : World) (mg : Str → Option Value) (fa : Addr) (h : Heap), (K w.params).In h → h.Ns mainGlobals mg → mg d.name = some (.ref fa) →
      ∃ fd : FuncData, (∀ (s : Shared) (u : Value), BindsTo s fd ⟨[u], []⟩ [(x, u)]) ∧
        ∀ base : Heap, (K w.params).In base → base.Ns mainGlobals mg → FnG l.prog w (K w.params) mg base CX0 k fa fd [x] (sp w))
    (hsp : ∀ (w : World) (H : Hp) (a : Addr) (ns : List Int), ns.length ≤ n → Only H → SqL (K w.params) H a (ns.map V.int) → sp w [.ref a] H (fun v _ => v = .bl true) E0) :
    PySem.W.WalkO q loose XP YP l.row.toRowW d [] (fun f vs => PySem.call f vs) := by
  refine Att.attach_call hn hdf fun w s₀ s mg mb fa o pm cd doc a vs ns G Y ho hd hcd hmg hobj hints hlen hg => ?_
  obtain ⟨fd, hb, hF⟩ := F w mg fa _ (hY w _ Y) G.T.g hmg
  exact law_callG (hY w _ Y) G.T.g G.T.b G.T.builtins G.T.nolimit hg hobj hints (Nat.le_trans hlen hn2) hr hF hb fun H h1 h2 => hsp w H a ns hlen h1 h2
end L2

set_option maxHeartbeats 4000000
/-! repr of data: none, bools, ints, texts, lists, tuples at any depth, where no guard stands -/
namespace L2
open PySem PySem.Spec PyProof.Rows
section
variable {K : PySem.W.Frag} {H : Hp}
mutual
theorem Dp.noDict : ∀ (d : PyData) (v : V), Dp K H v d → d.hasDict = false
  | .none, _, _ => rfl
  | .bool _, _, _ => rfl
  | .int _, _, _ => rfl
  | .str _, _, _ => rfl
  | .list ds, _, h => by
    cases h with
    | lst _ ha => simpa [PyData.hasDict] using Dp.noDictAll ds _ ha
  | .tuple ds, _, h => by
    cases h with
    | tup _ ha => simpa [PyData.hasDict] using Dp.noDictAll ds _ ha
  | .dict _, _, h => by cases h
theorem Dp.noDictAll : ∀ (ds : List PyData) (vs : List V), DpAll K H vs ds → PyData.hasDictAll ds = false
  | [], _, _ => rfl
  | d :: ds, _, h => by
    cases h with
    | cons h1 h2 => simp [PyData.hasDictAll, Dp.noDict d _ h1, Dp.noDictAll ds _ h2]
end
end
section
variable {X : Cx}
def rRepr (K : PySem.W.Frag) (B : Nat) : List V → Hp → VK → Prop := fun xs H Q => ∃ v d, xs = [v] ∧ Dp K H v d ∧ d.showable = true ∧ d.depth ≤ B ∧ d.shown.length ≤ sizeLine ∧ Q (.str d.shown) H
theorem call_reprD {B : Nat} (hc : Calm X.A) (hu : X.A.units + (B + 1) < cLine) : CallR X (.builtin "repr") (rRepr X.K B) := by
  intro pins s σ H xs us Q I r h
  obtain ⟨v, d, rfl, hd, hs, hB, hz, q⟩ := h
  obtain ⟨u, rfl, ru⟩ := r.one
  obtain ⟨as, rd⟩ := Dp.reads I d v u hd ru
  have nd := Dp.noDict d v hd
  match d, hd, ru, rd, hs, hB, hz, q, nd with
  | .none, .non, ru, _, _, _, _, q, _ =>
    cases ru
    exact PySem.P.repr_of_none ⟨.str _, H, I.tok _, ⟨_, rfl⟩, q⟩
  | .bool b, .bl _, ru, _, _, _, _, q, _ =>
    cases ru
    exact PySem.P.repr_of_bool ⟨.str _, H, I.tok _, ⟨_, rfl⟩, q⟩
  | .int i, .int _, ru, _, hs, _, _, q, _ =>
    obtain ⟨t, rfl⟩ := ru
    exact PySem.P.repr_of_int (by simpa [PyData.showable] using hs) ⟨.str _, H, I.tok _, ⟨_, rfl⟩, q⟩
  | .str x, .str _, ru, _, _, _, hz, q, _ =>
    obtain ⟨t, rfl⟩ := ru
    exact PySem.P.repr_of_str ⟨.str _, H, I.tok _, ⟨_, rfl⟩, q⟩ hz
  | .list ds, .lst (a := a) _ _, ru, rd, hs, hB, hz, q, nd =>
    cases ru
    exact repr_of_reads' rd hs (PyData.noDict_hsm nd) hc (by omega) (fun _ _ e => e) (fun h' t tk hk => ⟨.str _, H, I.kept hk, ⟨_, rfl⟩, q⟩) hz
  | .tuple ds, .tup (a := a) _ _, ru, rd, hs, hB, hz, q, nd =>
    cases ru
    exact repr_of_reads' rd hs (PyData.noDict_hsm nd) hc (by omega) (fun _ _ e => e) (fun h' t tk hk => ⟨.str _, H, I.kept hk, ⟨_, rfl⟩, q⟩) hz
end
end L2

set_option maxHeartbeats 4000000
namespace N
open PySem L2
def top (i : Nat) : Stmt := PySem.Challenge.pw_stitchsizes_k14_errors_created.main.body.getD i (.Pass ⟨0, 0, 0, 0⟩)
structure Blts (mg : Str → Option Value) : Prop where
  n_abs : mg "abs" = none
  n_len : mg "len" = none
  n_max : mg "max" = none
  n_min : mg "min" = none
  n_int : mg "int" = none
  n_bool : mg "bool" = none
  n_divmod : mg "divmod" = none
  n_isinstance : mg "isinstance" = none
  n_range : mg "range" = none
  n_zip : mg "zip" = none
  n_tuple : mg "tuple" = none
  n_list : mg "list" = none
  n_str : mg "str" = none
  n_repr : mg "repr" = none
  n_all : mg "all" = none
  n_any : mg "any" = none
  n_sum : mg "sum" = none
  n_sorted : mg "sorted" = none
  n_dict : mg "dict" = none
  n_enumerate : mg "enumerate" = none
/-- a pot of draws: two counts -/
def Pot (H : Hp) (p : Addr) : Prop := ∃ a b : Int, H p = some (.lst [.int a, .int b]) ∧ 0 ≤ a ∧ 0 ≤ b ∧ b < 4294967296
/-- all that was tracked is as it was, but what stands at p -/
def But (p : Addr) (H H' : Hp) : Prop := ∀ b o, H b = some o → b ≠ p → H' b = some o
theorem But.refl {p : Addr} {H : Hp} : But p H H := fun _ _ h _ => h
theorem But.trans {p : Addr} {H H1 H2 : Hp} (a : But p H H1) (b : But p H1 H2) : But p H H2 := fun c o h n => b c o (a c o h n) n
theorem But.upd {p : Addr} {H : Hp} {o : HO} : But p H (L2.upd H p o) := fun c u h n => by rw [upd_ne n]; exact h
theorem But.new {p q : Addr} {H : Hp} {o : HO} (hq : H q = none) : But p H (L2.upd H q o) := fun c u h n => by rw [upd_ne (ne_of_none h hq)]; exact h
theorem But.free {p q : Addr} {H H' : Hp} (e : But p H H') (hp : q ≠ p) (h : H' q = Option.none) : H q = Option.none := by
  cases z : H q with
  | none => rfl
  | some o =>
    rw [e q o z hp] at h
    cases h
theorem Pot.at {H : Hp} {p : Addr} (h : Pot H p) : ∃ o, H p = some o := let ⟨_, _, e, _⟩ := h; ⟨_, e⟩
theorem Pot.ne {H : Hp} {p q : Addr} (h : Pot H p) (hq : H q = none) : q ≠ p := fun z => by obtain ⟨_, _, e, _⟩ := h; subst z; rw [hq] at e; cases e
theorem Pot.new {H : Hp} {p q : Addr} {o : HO} (h : Pot H p) (hq : H q = none) : Pot (L2.upd H q o) p := by
  obtain ⟨a, b, e, r⟩ := h
  exact ⟨a, b, by rw [upd_ne (ne_of_none e hq)]; exact e, r⟩
def spDraw : Sp := fun vs H Q _ => ∃ (p : Addr) (n : Int), vs = [.ref p, .int n] ∧ Pot H p ∧ 0 < n ∧ n < 1000000 ∧ ∀ d H', 0 ≤ d → d < n → Pot H' p → But p H H' → Q (.int d) H'
section
variable {P : Program} {w : World} {K : PySem.W.Frag} {mg : Str → Option Value} {base : Heap}
abbrev s__law_draw : Stmt := top 44
theorem sc__law_draw : FnScope ["_law_pot_here", "_law_many", "_law_digit"] ["_law_pot_here", "_law_many"] (defScope s__law_draw) := ⟨rfl, rfl, rfl, by decide +kernel, rfl, by decide +kernel, by decide +kernel⟩
theorem h_law_draw (B : Blts mg) (F : FunAt K mg "_law_draw" "_law_draw" s__law_draw) : Has P w K mg base "_law_draw" 1 ["_law_pot_here", "_law_many"] spDraw := by
  refine has_of F sc__law_draw (fun _ _ _ _ _ _ us hl => match us, hl with | [_, _], _ => rfl) (fun vs H Q E h => ?_) (fun f cdv A outer s H vs Q E hr h => ?_)
  · obtain ⟨p, n, rfl, _⟩ := h
    rfl
  · obtain ⟨p, n, rfl, hp, h0, h1, k⟩ := h
    obtain ⟨a, b, hp, ha, hb, hb2⟩ := hp
    refine ⟨_, (pss_cons (ps_if (pt_cmpR op_gt (pe_ix ix_list (pv 0) pe_int (fun _ _ => rfl)) pe_int (by first | exact nomark _ | rfl)) (pss_cons (ps_asg (pe_callB call_divmod (by rfl) B.n_divmod (by decide +kernel) (pa_cons (pe_ix ix_list (pv 0) pe_int (fun _ _ => rfl)) (pa_cons (pv 1) pa_nil))) (pg_tup rfl (pgs_cons (pg_sub (pv 0) pe_int set_list) (pgs_cons (pg_name (i := 2) sc__law_draw.nd rfl (Or.inl rfl)) pgs_nil))))
        (pss_one (ps_ret (pv 2))))
        pss_nil)
      (pss_cons (ps_asg (pe_op op_mod (pe_callTy call_int1 (by rfl) B.n_int (by decide +kernel) (pa_cons (pe_op op_add (pe_op op_mul (pe_ix ix_list (pv 0) pe_int (fun _ _ => rfl)) pe_int) pe_int) pa_nil)) pe_int) (pg_sub (pv 0) pe_int set_list))
      (pss_one (ps_ret (pe_op op_mod (pe_callTy call_int1 (by rfl) B.n_int (by decide +kernel) (pa_cons (pe_op op_fdiv (pe_op op_mod (pe_callTy call_int1 (by rfl) B.n_int (by decide +kernel) (pa_cons (pe_op op_mul (pe_ix ix_list (pv 0) pe_int (fun _ _ => rfl)) (pe_ix ix_list (pv 0) pe_int (fun _ _ => rfl))) pa_nil)) pe_int) pe_int) pa_nil)) (pv 1)))))), ?_⟩
    refine ⟨_, rfl, p, _, 0, _, rfl, rfl, SqL.of hp, rfl, _, _, rfl, rfl, _, rfl, ?_⟩
    refine ite2 (fun c => ?_) (fun _ => ?_)
    · have c' : 0 < a := of_decide_eq_true c
      refine ⟨_, rfl, p, _, 0, _, rfl, rfl, SqL.of hp, rfl, _, rfl, a, n, rfl, ⟨h0, by omega⟩, fun q hq => ?_⟩
      refine ⟨q, _, rfl, SqT.of upd_same, rfl, _, _, rfl, _, rfl, p, _, 0, 0, rfl, rfl, (by rw [upd_ne (ne_of_none hp hq)]; exact hp), rfl, _, _, rfl, rfl, ?_⟩
      refine ⟨_, rfl, k _ _ (Int.emod_nonneg _ (by omega)) (Int.emod_lt_of_pos _ h0) ⟨a / n, b, upd_same, Int.ediv_nonneg ha (by omega), hb, hb2⟩ ?_⟩
      exact (But.new hq).trans But.upd
    · refine ⟨_, rfl, p, _, 1, _, rfl, rfl, SqL.of hp, rfl, _, _, rfl, rfl, .inr ⟨by omega, by omega⟩, _, _, rfl, rfl, .inl ⟨_, rfl, _, _, rfl, rfl, (by decide : (0 : Int) < 2147483587), _, rfl, p, _, 1, 1, rfl, rfl, hp, rfl, ?_⟩⟩
      have g0 : 0 ≤ (b * 44203 + 15511) % 2147483587 := Int.emod_nonneg _ (by decide)
      have g1 : (b * 44203 + 15511) % 2147483587 < 2147483587 := Int.emod_lt_of_pos _ (by decide)
      refine ⟨_, rfl, p, _, 1, _, rfl, rfl, SqL.of upd_same, rfl, _, rfl, p, _, 1, _, rfl, rfl, SqL.of upd_same, rfl, _, _, rfl, rfl, .inr ⟨by omega, by omega⟩, .inl ⟨_, rfl, _, _, rfl, rfl, (by decide : (0 : Int) < 2147483549), _, _, rfl, rfl, ⟨by decide, by decide⟩, .inl ⟨_, rfl, _, rfl, _, _, rfl, rfl, h0, ?_⟩⟩⟩
      exact k _ _ (Int.emod_nonneg _ (by omega)) (Int.emod_lt_of_pos _ h0) ⟨a, _, upd_same, ha, g0, by omega⟩ But.upd
end
end N

set_option maxHeartbeats 4000000
namespace N
open PySem L2
theorem But.of {p : Addr} {H H' : Hp} (h : Same H H') : But p H H' := fun b o e _ => h b o e
theorem Same.new {q : Addr} {H : Hp} {o : HO} (hq : H q = none) : Same H (L2.upd H q o) := fun c u h => by rw [upd_ne (ne_of_none h hq)]; exact h
theorem But.sq {p l : Addr} {K : PySem.W.Frag} {H H' : Hp} {xs : List V} (e : But p H H') (n : l ≠ p) (h : SqL K H l xs) : SqL K H' l xs := by
  rcases h with (h | ⟨o, h⟩) | h
  · exact .inl (.inl (e _ _ h n))
  · exact .inl (.inr ⟨o, e _ _ h n⟩)
  · exact .inr h
theorem But.st {p l : Addr} {K : PySem.W.Frag} {H H' : Hp} {xs : List V} (e : But p H H') (n : l ≠ p) (h : SqT K H l xs) : SqT K H' l xs := by
  rcases h with (h | ⟨o, h⟩) | h
  · exact .inl (.inl (e _ _ h n))
  · exact .inl (.inr ⟨o, e _ _ h n⟩)
  · exact .inr h
theorem atI_at {α : Type} {xs : List α} {d : Int} {v : α} (h0 : 0 ≤ d) (h : xs[d.toNat]? = some v) : atI xs d = some v := by
  have z := atI_nat h
  rwa [Int.toNat_of_nonneg h0] at z
def spPot (K : PySem.W.Frag) : Sp := fun vs H Q _ => ∃ (a : Addr) (ns : List Int) (k : Nat), vs = [.ref a, .int k] ∧ SqL K H a (ns.map V.int) ∧ ns.length ≤ 63 ∧ k ≤ 63 ∧ ∀ p H', H p = none → Pot H' p → Same H H' → Q (.ref p) H'
def spPick (K : PySem.W.Frag) : Sp := fun vs H Q _ => ∃ (p l : Addr) (xs : List V), vs = [.ref p, .ref l] ∧ Pot H p ∧ SqL K H l xs ∧ l ≠ p ∧ xs ≠ [] ∧ xs.length < 1000000 ∧ ∀ v H', v ∈ xs → Pot H' p → But p H H' → Q v H'
section
variable {P : Program} {w : World} {K : PySem.W.Frag} {mg : Str → Option Value} {base : Heap}
abbrev s__law_pot : Stmt := top 43
theorem sc__law_pot : FnScope ["_law_script", "_law_k", "_law_cell"] ["_law_script", "_law_k"] (defScope s__law_pot) := ⟨rfl, rfl, rfl, by decide +kernel, rfl, by decide +kernel, by decide +kernel⟩
theorem h_law_pot (B : Blts mg) (F : FunAt K mg "_law_pot" "_law_pot" s__law_pot) : Has P w K mg base "_law_pot" 1 ["_law_script", "_law_k"] (spPot K) := by
  refine has_of F sc__law_pot (fun _ _ _ _ _ _ us hl => match us, hl with | [_, _], _ => rfl) (fun vs H Q E h => ?_) (fun f cdv A outer s H vs Q E hr h => ?_)
  · obtain ⟨p, n, k, rfl, _⟩ := h
    rfl
  · obtain ⟨a, ns, j, rfl, hs, hn, hj, k⟩ := h
    refine ⟨_, (pss_cons (ps_set (i := 2) sc__law_pot.nd rfl (Or.inl rfl) (pe_ifExp (pt_cmpR op_lt (pv 1) (pe_callB call_len (by rfl) B.n_len PySem.boot_len (pa_cons (pv 0) pa_nil)) (by first | exact nomark _ | rfl)) (pe_ix ix_list (pv 0) (pv 1) (fun _ _ => rfl)) (pe_op op_mul pe_int (pv 1))))
      (pss_one (ps_ret (pe_lst (pa_cons (pe_callB (call_max2 rfl) (by rfl) B.n_max (by decide +kernel) (pa_cons pe_int (pa_cons (pe_op op_sub (pe_callB call_abs (by rfl) B.n_abs (by decide +kernel) (pa_cons (pv 2) pa_nil)) (pe_op op_pow pe_int pe_int)) pa_nil))) (pa_cons (pe_op op_add (pe_op op_mod (pe_callTy call_int1 (by rfl) B.n_int (by decide +kernel) (pa_cons (pe_op op_add (pe_op op_add (pe_op op_mul (pe_op op_mod (pe_callTy call_int1 (by rfl) B.n_int (by decide +kernel) (pa_cons (pe_callB call_abs (by rfl) B.n_abs (by decide +kernel) (pa_cons (pv 2) pa_nil)) pa_nil)) pe_int) pe_int) (pe_op op_mul pe_int (pv 1))) pe_int) pa_nil)) pe_int) pe_int) pa_nil)))))), ?_⟩
    have rest : ∀ z : Int, ∀ (c : Int), c = (if z < 0 then -z else z) → ∀ (y : Int), y = (if 0 < c - 10 ^ 18 then c - 10 ^ 18 else 0) →
        ∀ q, H q = none → Q (.ref q) (upd H q (.lst [.int y, .int ((c % 2147483563 * 40009 + 61297 * (j : Int) + 17) % 2147483629 + 1)])) := by
      intro z c hc y hy q hq
      have c0 : 0 ≤ c := by subst hc; split <;> omega
      have y0 : 0 ≤ y := by subst hy; split <;> omega
      have g0 : 0 ≤ (c % 2147483563 * 40009 + 61297 * (j : Int) + 17) % 2147483629 := Int.emod_nonneg _ (by decide)
      have g1 : (c % 2147483563 * 40009 + 61297 * (j : Int) + 17) % 2147483629 < 2147483629 := Int.emod_lt_of_pos _ (by decide)
      exact k q _ hq ⟨y, _, upd_same, y0, by omega, by omega⟩ (Same.new hq)
    refine ⟨_, rfl, _, rfl, _, ns.length, rfl, .inl ⟨_, hs, by rw [List.length_map]⟩, _, _, rfl, rfl, _, rfl, ?_⟩
    have e10 : ((10 : Int) ^ (18 : Int).toNat) = 10 ^ 18 := rfl
    refine ite2 (fun c => ?_) (fun c => ?_)
    · have hlt : j < ns.length := by have := of_decide_eq_true c; omega
      refine ⟨_, rfl, _, rfl, a, _, (j : Int), .int ns[j], rfl, rfl, hs, atI_nat (by rw [List.getElem?_map, List.getElem?_eq_getElem hlt]; rfl), ?_⟩
      have m0 := Int.emod_nonneg (if ns[j] < 0 then -ns[j] else ns[j]) (by decide : (2147483563 : Int) ≠ 0)
      have m1 := Int.emod_lt_of_pos (if ns[j] < 0 then -ns[j] else ns[j]) (by decide : (0 : Int) < 2147483563)
      refine ⟨_, rfl, _, rfl, _, _, rfl, rfl, ⟨by decide, by decide, by decide⟩, _, _, rfl, rfl, _, _, rfl, _, rfl, _, rfl, .inl ⟨_, rfl, _, _, rfl, rfl, (by decide : (0 : Int) < 2147483563), _, _, rfl, rfl, .inr ⟨by decide, by decide⟩, _, rfl, _, _, rfl, rfl, .inl ⟨by decide, by decide⟩, _, _, rfl, rfl, _, _, rfl, rfl, .inl ⟨_, rfl, _, _, rfl, rfl, (by decide : (0 : Int) < 2147483629), _, _, rfl, rfl, (by show 2 ≤ sizeLine; decide), fun q hq => rest ns[j] _ rfl _ rfl q hq⟩⟩⟩
    · refine ⟨_, rfl, _, _, rfl, rfl, .inl ⟨by decide, by decide⟩, ?_⟩
      refine ⟨_, rfl, _, rfl, _, _, rfl, rfl, ⟨by decide, by decide, by decide⟩, _, _, rfl, rfl, _, _, rfl, _, rfl, _, rfl, .inl ⟨_, rfl, _, _, rfl, rfl, (by decide : (0 : Int) < 2147483563), _, _, rfl, rfl, .inr ⟨by decide, by decide⟩, _, rfl, _, _, rfl, rfl, .inl ⟨by decide, by decide⟩, _, _, rfl, rfl, _, _, rfl, rfl, .inl ⟨_, rfl, _, _, rfl, rfl, (by decide : (0 : Int) < 2147483629), _, _, rfl, rfl, (by show 2 ≤ sizeLine; decide), fun q hq => rest (7 * (j : Int)) _ rfl _ rfl q hq⟩⟩⟩
abbrev s__law_pick : Stmt := top 45
theorem sc__law_pick : FnScope ["_law_pot_here", "_law_some"] ["_law_pot_here", "_law_some"] (defScope s__law_pick) := ⟨rfl, rfl, rfl, by decide +kernel, rfl, by decide +kernel, by decide +kernel⟩
theorem h_law_pick (B : Blts mg) (F : FunAt K mg "_law_pick" "_law_pick" s__law_pick) (h_law_draw : Has P w K mg base "_law_draw" 1 ["_law_pot_here", "_law_many"] spDraw) : Has P w K mg base "_law_pick" 2 ["_law_pot_here", "_law_some"] (spPick K) := by
  refine has_of F sc__law_pick (fun _ _ _ _ _ _ us hl => match us, hl with | [_, _], _ => rfl) (fun vs H Q E h => ?_) (fun f cdv A outer s H vs Q E hr h => ?_)
  · obtain ⟨p, n, k, rfl, _⟩ := h
    rfl
  · obtain ⟨p, l, xs, rfl, hp, hs, hne, hx, hlen, k⟩ := h
    refine ⟨_, (pss_one (ps_ret (pe_ix ix_list (pv 1) (pe_has h_law_draw (hr.mono (by decide)) (pa_cons (pv 0) (pa_cons (pe_callB call_len (by rfl) B.n_len PySem.boot_len (pa_cons (pv 1) pa_nil)) pa_nil))) (fun _ _ => rfl)))), ?_⟩
    have h0 : 0 < xs.length := List.length_pos_iff.mpr hx
    refine ⟨_, rfl, _, rfl, _, rfl, _, xs.length, rfl, .inl ⟨_, hs, rfl⟩, p, _, rfl, hp, by omega, by omega, fun d H' d0 d1 hp' e => ?_⟩
    have dl : d.toNat < xs.length := by omega
    exact ⟨l, xs, d, xs[d.toNat], rfl, rfl, e.sq hne hs, atI_at d0 (List.getElem?_eq_getElem dl), k _ _ (List.getElem_mem dl) hp' e⟩
end
end N

set_option maxHeartbeats 4000000
/-! own errors over any built-in error: their fields, and that they are made -/
namespace ExB
open PySem PySem.W PySem.Calls PyProof.Rows Builtin Builtin.ObjectAttr
section
variable {prog : Program} {w : World} {A : Around} {R : Result → Shared → Prop} {hp : Heap} {g : Array GenState} {d : Drawn} {t : Nat} {os : OsState} {B : String} {bmB : List Value} {K : Frag} {C x : Addr} {name : Str} {tk : Tok} {v : Value}
theorem no_taker (h : findIn K (.ref C) name = some none) : takerIn K C name = some none := by
  unfold takerIn
  rw [h]
  rfl
/-- the first field: a dict is laid for it -/
theorem first_field {fv : Array Value} {cd : ClassData} (SF : StoreFacts B bmB "object.__setattr__" "object") (X : K.In hp) (e : hp.get? x = some { cls := .ref C, data := .fields fv }) (ov : excOver K C bmB = true) (c : clsIn K C = some cd) (hd : cd.hasDict = true) (no : findIn K (.ref C) name = some none)
    (q : ∀ h' tk' dx, (∀ b o, b ≠ x → hp.get? b = some o → h'.get? b = some o) → hp.objs.size ≤ dx → dx ≠ x → h'.get? x = some { cls := .ref C, dict := some dx, data := .fields fv } → h'.Ns1 dx (fun y => if y = name then some v else none) → R (.ok (.ret .none)) ⟨h', g, d, tk', os⟩) :
    codeAny (model prog w) A (.call (.builtin "object.__setattr__") ⟨[.ref x, .str name tk, v], []⟩) R ⟨hp, g, d, t, os⟩ := by
  have nx : x ≠ hp.objs.size := Nat.ne_of_lt (Heap.lt_size e)
  have I : InstAt hp x { cls := .ref C, data := .fields fv } C none := ⟨e, rfl, rfl, trivial⟩
  refine osa_openX SF X I ov (no_taker no) fun b => ?_
  have look : Looks (model prog w) hp (classData C) cd := looks_clsIn X c
  show wpAny _ _ (storeInOwnDict (.ref x) (.ref C) (.str name tk) name v b) _ _ _
  cases cd
  cases (show _ = true from hd)
  unfold storeInOwnDict ownDictForStores
  repeat (first | with_reducible refine PX.store_in_new ?_ ?_ | with_reducible refine wpAny_loadPart_at e ?_ | with_reducible refine look.at ?_ | wp_step)
  · exact ⟨_, #[], _, (Heap.get?_update_ne _ _ _ _ nx.symm).trans (Heap.get?_push_at rfl rfl), rfl, fun p z => absurd z (by simp), fun _ => rfl⟩
  · intro h' tk' hn hs
    have e' := Heap.get?_push_of_some ({ cls := .type "dict", data := .dict #[] } : Obj) e
    have old : ∀ b o, b ≠ x → hp.get? b = some o → h'.get? b = some o := fun b o nb ho => (hs.2 b (Nat.ne_of_lt (Heap.lt_size ho))).trans ((Heap.get?_update_ne _ _ _ _ nb).trans (Heap.get?_push_of_some _ ho))
    exact q h' tk' _ old (Nat.le_refl _) nx.symm ((hs.2 x nx).trans (Heap.get?_update_self _ e' rfl)) hn
/-- a further field -/
theorem next_field {fv : Array Value} {cd : ClassData} {dx : Addr} {m0 : Str → Option Value} {nl : List Str} (SF : StoreFacts B bmB "object.__setattr__" "object") (X : K.In hp) (e : hp.get? x = some { cls := .ref C, dict := some dx, data := .fields fv }) (ns : hp.Ns1 dx m0) (wi : Within m0 nl) (lz : nl.length ≤ 1000)
    (ov : excOver K C bmB = true) (c : clsIn K C = some cd) (hd : cd.hasDict = true) (no : findIn K (.ref C) name = some none)
    (q : ∀ h' tk', (∀ b o, b ≠ dx → hp.get? b = some o → h'.get? b = some o) → h'.Ns1 dx (fun y => if y = name then some v else m0 y) → R (.ok (.ret .none)) ⟨h', g, d, tk', os⟩) :
    codeAny (model prog w) A (.call (.builtin "object.__setattr__") ⟨[.ref x, .str name tk, v], []⟩) R ⟨hp, g, d, t, os⟩ := by
  obtain ⟨od, _, _, eD, eE, _⟩ := ns.count wi
  have I : InstAt hp x { cls := .ref C, dict := some dx, data := .fields fv } C (some od) := ⟨e, rfl, rfl, eD⟩
  refine osa_openX SF X I ov (no_taker no) fun b => ?_
  have look : Looks (model prog w) hp (classData C) cd := looks_clsIn X c
  show wpAny _ _ (storeInOwnDict (.ref x) (.ref C) (.str name tk) name v b) _ _ _
  cases cd
  cases (show _ = true from hd)
  unfold storeInOwnDict ownDictForStores
  repeat (first | with_reducible refine PySem.OEX.store_in_old ns wi lz ?_ | with_reducible refine wpAny_loadPart_at e ?_ | with_reducible refine look.at ?_ | wp_step)
  intro h' tk' hn hs
  exact q h' tk' (fun b o nb ho => (hs.2 b nb).trans ho) hn
end
end ExB

set_option maxHeartbeats 4000000
namespace L2
open PySem PySem.Spec PyProof.Rows
/-- an own error's class over the built-in B, as it stands behind the top -/
structure OexB (K : PySem.W.Frag) (C : Addr) (B newId initId : String) (bmB : List Value) : Prop where
  cls : ∃ nm q N bs bm sn sub ab col dd k0 k1 k2 k3 k5, K.lookup C = some (excClassObj nm q C N bs bm true sn sub ab col dd k0 k1 k2 k3 k5 newId) ∧ PySem.W.excTail bmB bm = true
  sa : PySem.W.findIn K (.ref C) "__setattr__" = some (some (.builtin "object.__setattr__"))
  exC : PySem.W.subIn K (.ref C) (.type "BaseException") = some true
  tyC : PySem.W.typeIn K (.ref C) = some (.type "type")
  kC : PySem.W.keepIn K (.ref C) = true
  sf : StoreFacts B bmB "object.__setattr__" "object"
  fb : ExcBaseFacts B newId initId bmB
theorem OexB.parts {K : PySem.W.Frag} {C : Addr} {B newId initId : String} {bmB : List Value} (T : OexB K C B newId initId bmB) : PySem.W.excOver K C bmB = true ∧ ∃ cd, PySem.W.clsIn K C = some cd ∧ cd.hasDict = true := by
  obtain ⟨nm, q, N, bs, bm, sn, sub, ab, col, dd, k0, k1, k2, k3, k5, hC, tl⟩ := T.cls
  have c : PySem.W.clsIn K C = some { name := nm, bases := bs, mro := .ref C :: bm, ns := N, qualname := q, hasDict := true, slotNames := sn, subclasses := sub, abstract := ab, collection := col, hasDel := false } := by unfold PySem.W.clsIn; rw [hC] <;> rfl
  refine ⟨?_, _, c, rfl⟩
  unfold PySem.W.excOver
  rw [c]
  show ((C == C) && PySem.W.excTail bmB bm) = true
  rw [tl]
  simp
section
variable {X : Cx} {pins : List (Addr × Obj)} {σ : St} {H : Hp} {s : Shared} {a C dx : Addr} {f : Str} {y : V} {u : Value} {fs : List (Str × V)} {Q : Unit → Shared → Prop} {E : Value → Shared → Prop} {A : Around} {B newId initId : String} {bmB : List Value}
theorem put_first (T : OexB X.K C B newId initId bmB) (I : Inv X pins σ H s) (e : H a = some (exo a C none)) (no : PySem.W.findIn X.K (.ref C) f = some none) (ry : RelV y u)
    (h : ∀ dx s', H dx = none → dx ≠ a → Inv X pins σ (upd (upd H dx (exd dx [(f, y)])) a (exo a C (some dx))) s' → Q () s') : wpAny (model X.prog X.w) A (setAttr (.ref a) f u) Q E s := by
  obtain ⟨ov, cd, c, hd⟩ := T.parts
  obtain ⟨t1, o⟩ := exo_at I.hok e
  obtain ⟨hp, g, d, t, os⟩ := s
  refine PySem.W.set_plain I.kIn (ox := { cls := .ref C, dict := none, data := .fields #[.ref t1, .none, .none, .none, .bool false, .none] }) (od := none) ⟨o, rfl, rfl, trivial⟩ T.sa ?_
  refine ExB.first_field T.sf I.kIn o ov c hd no fun h' tk' dx old ge ne o' ns => ?_
  have fresh : H dx = none := I.hok.fresh ge
  -- between the two: the dict is there, the error as it was
  let mid : Heap := h'.update a fun _ => { cls := .ref C, dict := none, data := .fields #[.ref t1, .none, .none, .none, .bool false, .none] }
  have midA : mid.get? a = some { cls := .ref C, dict := none, data := .fields #[.ref t1, .none, .none, .none, .bool false, .none] } := Heap.get?_update_self _ o' rfl
  have midN : ∀ b, b ≠ a → mid.get? b = h'.get? b := fun b n => Heap.get?_update_ne _ _ _ _ n
  have keep : ∀ b o, hp.get? b = some o → mid.get? b = some o := fun b o1 q => by
    by_cases z : b = a
    · subst z
      rw [o] at q
      cases q
      exact midA
    · rw [midN b z]
      exact old b o1 z q
  have nsM := ns.at fun o1 q => (midN dx ne).trans q
  have I1 : Inv X pins σ (upd H dx (exd dx [(f, y)])) ⟨mid, g, d, t, os⟩ := I.laid (t' := t) (a := dx) (o := exd dx [(f, y)]) (h' := mid) keep ge (exd_ok nsM (relO_put (fs := []) ry fun _ => True.intro))
  have eA : (upd H dx (exd dx [(f, y)])) a = some (exo a C none) := (upd_ne ne.symm).trans e
  have I2 := I1.write (t' := tk') (x := a) (e := a) (o := exo a C (some dx)) (by rw [eA]; exact True.intro) (.inl rfl) (fun b o1 n q => (midN b n).symm.trans q) ⟨_, o'⟩ (exo_ok o')
  exact h dx _ fresh ne I2
theorem put_next (T : OexB X.K C B newId initId bmB) (I : Inv X pins σ H s) (e : H a = some (exo a C (some dx))) (ed : H dx = some (exd dx fs)) (lz : fs.length ≤ 900) (no : PySem.W.findIn X.K (.ref C) f = some none) (ry : RelV y u)
    (h : ∀ s', Inv X pins σ (upd H dx (exd dx ((f, y) :: fs))) s' → Q () s') : wpAny (model X.prog X.w) A (setAttr (.ref a) f u) Q E s := by
  obtain ⟨ov, cd, c, hd⟩ := T.parts
  obtain ⟨t1, o⟩ := exo_at I.hok e
  obtain ⟨mA, ns, rel⟩ := exd_at I.hok ed
  have wi := within_of rel
  obtain ⟨hp, g, d, t, os⟩ := s
  obtain ⟨oD, _, _, eD, _, _⟩ := ns.count wi
  refine PySem.W.set_plain I.kIn (ox := { cls := .ref C, dict := some dx, data := .fields #[.ref t1, .none, .none, .none, .bool false, .none] }) (od := some oD) ⟨o, rfl, rfl, eD⟩ T.sa ?_
  refine ExB.next_field T.sf I.kIn o ns wi (by rw [List.length_map]; omega) ov c hd no fun h' tk' old ns' => ?_
  have there : ∃ o, h'.get? dx = some o := let ⟨o, _, _, q, _⟩ := ns'; ⟨o, q⟩
  exact h _ (I.write (t' := tk') (x := dx) (e := dx) (o := exd dx ((f, y) :: fs)) (by rw [ed]; exact True.intro) (.inl rfl) old there (exd_ok ns' (relO_put ry rel)))
end
end L2

set_option maxHeartbeats 4000000
namespace L2
open PySem PySem.Spec PyProof.Rows
/-- self.f = e, self an error of the class at C over B that is being made -/
def tPut (K : PySem.W.Frag) (B newId initId : String) (bmB : List Value) (f : Str) (to te : TE) : TS := fun D σ H => te σ H fun y H1 => to σ H1 fun x H2 => ∃ a C : Addr, x = .ref a ∧ OexB K C B newId initId bmB ∧ PySem.W.findIn K (.ref C) f = some none ∧
  ((H2 a = some (exo a C none) ∧ ∀ dx, H2 dx = none → dx ≠ a → D.nx σ (upd (upd H2 dx (exd dx [(f, y)])) a (exo a C (some dx)))) ∨
    ∃ (dx : Addr) (fs : List (Str × V)), H2 a = some (exo a C (some dx)) ∧ H2 dx = some (exd dx fs) ∧ fs.length ≤ 900 ∧ D.nx σ (upd H2 dx (exd dx ((f, y) :: fs))))
section
variable {X : Cx} {o e : Expr} {es : List Expr} {to te : TE} {ta : TA} {f : Str} {p p' p1 p2 pos : Pos} {B newId initId : String} {bmB : List Value}
theorem ps_put (ho : PE X o to) (he : PE X e te) (hs : swapsWith e (some (.Attribute o f p')) pos.line X.env = pure false := by rfl) : PS X (.Assign [.Attribute o f p'] e pos) (tPut X.K B newId initId bmB f to te) := by
  refine ⟨fun pins s σ H D I h => ?_⟩
  refine plainObj_wpAny_Assign_Attribute (thn (he.run pins s σ H _ I h) fun v s1 ⟨y, H1, I1, r1, q1⟩ => ?_) hs
  refine thn (ho.run pins s1 σ H1 _ I1 q1) fun u s2 ⟨x, H2, I2, r2, a, C, ex, T, no, q⟩ => ?_
  subst ex
  cases (show u = Value.ref a from r2)
  rcases q with ⟨ea, q⟩ | ⟨dx, fs, ea, ed, lz, q⟩
  · exact put_first T I2 ea no r1 fun dx s' n ne J => ⟨σ, _, J, q dx n ne⟩
  · exact put_next T I2 ea ed lz no r1 fun s' J => ⟨σ, _, J, q⟩
/-- C(e, ..) for a raise: C's own __init__ keeps sp -/
theorem pmk_base {CX : CXT} {x : Str} {C fI : Addr} {k : Nat} {fd : FuncData} {ps : List Str} {sp : Sp} {ds : List Value} {dvs : List V} (T : OexB X.K C B newId initId bmB) (ini : PySem.W.findIn X.K (.ref C) "__init__" = some (some (.ref fI))) (ity : PySem.W.typeIn X.K (.ref fI) = some (.type "function"))
    (F1 : FnOk X.prog X.w X.K X.mg X.base CX k fI fd ps sp) (hr : Room (k + 1) X.A) (hb : Binds X.K fd ps ds) (hd : Vals dvs ds) (hx : Passes CX X (fun _ _ _ => False)) (hg : Gl X x) (hm : X.mg x = some (.ref C)) (ha : PA X (e :: es) ta)
    (hdb : (x == ("__debug__" : Str)) = false := by decide) (he : starEach (e :: es) X.env = (false, eval e X.env) :: starEach es X.env := by rfl) (hpl : (backTo pos (starEach es X.env)).any (·.1) = false := by rfl) :
    PMk X (.Call (.Name x p) (e :: es) [] pos) (tMkO C sp dvs ta) := by
  intro pins s σ H Q I h
  obtain ⟨_, _, _, _, bm, _, _, _, _, _, _, _, _, _, _, cC, tl⟩ := T.cls
  refine wpAny_Call_Name_kw (ld_glob I hg hm ?_ hdb)
  refine PySem.W.callWith_K (h₀ := X.base) I.ok.mod.kin T.kC (thn (ha.run pos pins s σ H _ I h) fun us s1 ⟨vs, H1, I1, r1, few, q1⟩ => ⟨I1.kIn, ?_⟩) he hpl
  show wpAny _ _ (call (.ref C) us) _ _ _
  obtain ⟨hp, g, dr, tk, os⟩ := s1
  let at_ : Addr := hp.objs.size + 1
  let laid : Heap := (hp.push (PySem.W.kdv_tup us)).push (PySem.PX.excO C hp.objs.size)
  have up : hp.objs.size ≤ at_ := Nat.le_succ _
  have n1 : H1 at_ = none := I1.hok.fresh up
  have q2 := q1 at_ n1
  have old : ∀ b o, hp.get? b = some o → laid.get? b = some o := fun b o z => Heap.get?_push_of_some _ (Heap.get?_push_of_some _ z)
  have new : laid.get? at_ = some (PySem.PX.excO C hp.objs.size) := by
    show ((hp.push (PySem.W.kdv_tup us)).push (PySem.PX.excO C hp.objs.size)).get? (hp.objs.size + 1) = _
    heap_get
  have I2 : Inv X pins σ (upd H1 at_ (exo at_ C none)) ⟨laid, g, dr, tk, os⟩ := I1.laid (t' := tk) old up (exo_ok new)
  have r2 : Vals (V.ref at_ :: (vs ++ dvs)) (Value.ref at_ :: (us ++ ds)) := .cons rfl (r1.append hd)
  have len : (Value.ref at_ :: us ++ ds).length = ps.length := (r2.length.symm.trans (F1.len _ _ _ _ q2) : _)
  have fits : us.length ≤ sizeLine := by rw [← Paired.length r1, sizeLine_eq]; omega
  refine wpAny_call (PySem.PX.call_own T.fb (fun Y => PySem.W.excTail_contains Y bm tl) (I1.kIn _ _ cC) (PySem.W.looks_findIn I1.kIn ini) (fun self => PySem.W.bind_fn I1.kIn self ity) fits ?_)
  refine codeAny_mono (F1.run _ X.stack _ _ ⟨Value.ref at_ :: us, []⟩ (Value.ref at_ :: (us ++ ds)) _ _ (fun _ _ _ => False) (hr.make C us []) (I2.env0.make C us []) (hb _ (Value.ref at_ :: us) I2.kIn len) r2 q2) fun r s' z => ?_
  match r, z with
  | .error er, z => exact hx pins σ _ _ er s' I2 z
  | .ok (.ret u), ⟨v, H2, os2, bare2, un2, ok2, rv, ev, d, fs, ea, ed, hd1, q3⟩ =>
    subst ev
    obtain ⟨h2, g2, d2, t2, os'⟩ := s'
    exact ⟨rv, mk_end (raises_own T.exC T.tyC) I1 up old un2 ok2 os2 bare2 ea ed hd1 q3⟩
end
end L2

set_option maxHeartbeats 4000000
/-! own errors with one field: raised, and caught by several named clauses -/
namespace L2
open PySem PySem.Spec PyProof.Rows
/-- the class, as it stands behind the top: its name x, its field f -/
structure ErrC (K : PySem.W.Frag) (mg : Str → Option Value) (x f : Str) (C : Addr) (st : Stmt) (qual : Str) : Prop where
  o : OexC K C
  r : XfC K C
  g : mg x = some (.ref C)
  no : PySem.W.findIn K (.ref C) f = some none
  ini : ∃ (fI : Addr) (fd : FuncData), PySem.W.findIn K (.ref C) "__init__" = some (some (.ref fI)) ∧ PySem.W.typeIn K (.ref fI) = some (.type "function") ∧ Fun K "__init__" qual st fI fd
/-- what its __init__ promises -/
def spErr (f : Str) (C : Addr) : Sp := fun vs H Q _ => ∃ (a : Addr) (v : V), vs = [.ref a, v] ∧ H a = some (exo a C none) ∧ ∀ d, H d = none → d ≠ a → Q .non (upd (upd H d (exd d [(f, v)])) a (exo a C (some d)))
/-- the heap behind an error's making -/
theorem err_heap {H1 : Hp} {a d C : Addr} {o : HO} {u v : HO} (ha : H1 a = none) (hd : d ≠ a) : upd (del (upd (upd (upd H1 a u) d v) a (exo a C (some d))) a) d o = upd H1 d o := by
  funext b
  by_cases e : b = d
  · rw [e, upd_same, upd_same]
  · rw [upd_ne e, upd_ne e]
    by_cases z : b = a
    · rw [z, del_same, ha]
    · rw [del_ne z, upd_ne z, upd_ne e, upd_ne z]
/-- a monotone reading of the same arguments -/
theorem PA.up {X : Cx} {es : List Expr} {t : TA} (h : PA X es t) : PA X es (fun σ H Q => ∃ Q0 : List V → Hp → Prop, t σ H Q0 ∧ ∀ vs H1, Q0 vs H1 → Q vs H1) :=
  ⟨fun pos pins s σ H Q I q => by
    obtain ⟨Q0, q1, q2⟩ := q
    exact wpAny_mono (h.run pos pins s σ H Q0 I q1) (fun us s' z => let ⟨vs, H1, I1, r, q3⟩ := z; ⟨vs, H1, I1, r, q2 _ _ q3⟩) fun _ _ z => z⟩
def tErr (f : Str) (C : Addr) (t : TA) : St → Hp → XK → Prop := fun σ H Q => t σ H fun vs H1 => ∃ v, vs = [v] ∧ ∀ d, H1 d = none → Q (.ref C) (some d) (upd H1 d (.xd [(f, v)]))
section
variable {X : Cx} {x f qual : Str} {C : Addr} {st : Stmt} {p pos pos2 : Pos} {e : Expr} {t : TA} {W : WX}
theorem pmk_err (T : ErrC X.K X.mg x f C st qual) (F : ∀ fI fd, Fun X.K "__init__" qual st fI fd → FnOk X.prog X.w X.K X.mg X.base CX0 1 fI fd ["self", f] (spErr f C) ∧ Binds X.K fd ["self", f] []) (hr : Room 2 X.A) (ha : PA X [e] t) (hg : Gl X x := by rfl)
    (hdb : (x == ("__debug__" : Str)) = false := by decide) (he : starEach (e :: []) X.env = (false, eval e X.env) :: starEach [] X.env := by rfl) (hpl : (backTo pos (starEach [] X.env)).any (·.1) = false := by rfl) :
    PMk X (.Call (.Name x p) [e] [] pos) (tErr f C t) := by
  intro pins s σ H Q I h
  obtain ⟨fI, fd, i1, i2, i3⟩ := T.ini
  obtain ⟨f1, f2⟩ := F fI fd i3
  refine pmk_oex T.o i1 i2 f1 hr f2 .nil pass0 hg T.g ha.up hdb he hpl pins s σ H Q I ⟨_, h, fun vs H1 q => ?_⟩
  obtain ⟨v, rfl, q⟩ := q
  refine ⟨by show 1 ≤ 1000; decide, fun a na => ⟨a, v, rfl, upd_same, fun d hd ne => ⟨rfl, d, [(f, v)], upd_same, ?_, ?_, ?_⟩⟩⟩
  · exact (upd_ne ne).trans upd_same
  · rw [upd_ne ne] at hd
    exact hd
  · rw [upd_ne ne] at hd
    rw [err_heap na ne]
    exact q d hd
theorem ps_raiseE (hc : X.calm = true) (T : ErrC X.K X.mg x f C st qual) (F : ∀ fI fd, Fun X.K "__init__" qual st fI fd → FnOk X.prog X.w X.K X.mg X.base CX0 1 fI fd ["self", f] (spErr f C) ∧ Binds X.K fd ["self", f] []) (hr : Room 2 X.A) (tk : Takes X W) (ha : PA X [e] t) (hg : Gl X x := by rfl)
    (hdb : (x == ("__debug__" : Str)) = false := by decide) (he : starEach (e :: []) X.env = (false, eval e X.env) :: starEach [] X.env := by rfl) (hpl : (backTo pos (starEach [] X.env)).any (·.1) = false := by rfl) :
    PS X (.Raise (some (.Call (.Name x p) [e] [] pos)) none pos2) (fun _ σ H => tErr f C t σ H fun c d H' => W c d σ H') := ps_raise hc tk (pmk_err T F hr ha hg hdb he hpl)
end
end L2

set_option maxHeartbeats 4000000
/-! own errors with one field, or two, over any built-in base: raised -/
namespace L2
open PySem PySem.Spec PyProof.Rows
structure ErrB (K : PySem.W.Frag) (mg : Str → Option Value) (x : Str) (C : Addr) (st : Stmt) (qual : Str) (B newId initId : String) (bmB : List Value) : Prop where
  o : OexB K C B newId initId bmB
  r : XfC K C
  g : mg x = some (.ref C)
  ini : ∃ (fI : Addr) (fd : FuncData), PySem.W.findIn K (.ref C) "__init__" = some (some (.ref fI)) ∧ PySem.W.typeIn K (.ref fI) = some (.type "function") ∧ Fun K "__init__" qual st fI fd
/-- what the __init__ of one with two fields promises -/
def spErr2 (f g : Str) (C : Addr) : Sp := fun vs H Q _ => ∃ (a : Addr) (v u : V), vs = [.ref a, v, u] ∧ H a = some (exo a C none) ∧ ∀ d, H d = none → d ≠ a → Q .non (upd (upd H d (exd d [(g, u), (f, v)])) a (exo a C (some d)))
def tErr2 (f g : Str) (C : Addr) (t : TA) : St → Hp → XK → Prop := fun σ H Q => t σ H fun vs H1 => ∃ v u, vs = [v, u] ∧ ∀ d, H1 d = none → Q (.ref C) (some d) (upd H1 d (.xd [(g, u), (f, v)]))
section
variable {X : Cx} {x f g qual : Str} {C : Addr} {st : Stmt} {p pos pos2 : Pos} {e e2 : Expr} {t : TA} {W : WX} {B newId initId : String} {bmB : List Value}
theorem pmk_errB (T : ErrB X.K X.mg x C st qual B newId initId bmB) (F : ∀ fI fd, Fun X.K "__init__" qual st fI fd → FnOk X.prog X.w X.K X.mg X.base CX0 1 fI fd ["self", f] (spErr f C) ∧ Binds X.K fd ["self", f] []) (hr : Room 2 X.A) (ha : PA X [e] t) (hg : Gl X x := by rfl)
    (hdb : (x == ("__debug__" : Str)) = false := by decide) (he : starEach (e :: []) X.env = (false, eval e X.env) :: starEach [] X.env := by rfl) (hpl : (backTo pos (starEach [] X.env)).any (·.1) = false := by rfl) :
    PMk X (.Call (.Name x p) [e] [] pos) (tErr f C t) := by
  intro pins s σ H Q I h
  obtain ⟨fI, fd, i1, i2, i3⟩ := T.ini
  obtain ⟨f1, f2⟩ := F fI fd i3
  refine pmk_base T.o i1 i2 f1 hr f2 .nil pass0 hg T.g ha.up hdb he hpl pins s σ H Q I ⟨_, h, fun vs H1 q => ?_⟩
  obtain ⟨v, rfl, q⟩ := q
  refine ⟨by show 1 ≤ 1000; decide, fun a na => ⟨a, v, rfl, upd_same, fun d hd ne => ⟨rfl, d, [(f, v)], upd_same, (upd_ne ne).trans upd_same, ?_, ?_⟩⟩⟩
  · rwa [upd_ne ne] at hd
  · rw [upd_ne ne] at hd
    rw [err_heap na ne]
    exact q d hd
theorem ps_raiseB (hc : X.calm = true) (T : ErrB X.K X.mg x C st qual B newId initId bmB) (F : ∀ fI fd, Fun X.K "__init__" qual st fI fd → FnOk X.prog X.w X.K X.mg X.base CX0 1 fI fd ["self", f] (spErr f C) ∧ Binds X.K fd ["self", f] []) (hr : Room 2 X.A) (tk : Takes X W) (ha : PA X [e] t) (hg : Gl X x := by rfl)
    (hdb : (x == ("__debug__" : Str)) = false := by decide) (he : starEach (e :: []) X.env = (false, eval e X.env) :: starEach [] X.env := by rfl) (hpl : (backTo pos (starEach [] X.env)).any (·.1) = false := by rfl) :
    PS X (.Raise (some (.Call (.Name x p) [e] [] pos)) none pos2) (fun _ σ H => tErr f C t σ H fun c d H' => W c d σ H') := ps_raise hc tk (pmk_errB T F hr ha hg hdb he hpl)
theorem pmk_errB2 (T : ErrB X.K X.mg x C st qual B newId initId bmB) (F : ∀ fI fd, Fun X.K "__init__" qual st fI fd → FnOk X.prog X.w X.K X.mg X.base CX0 1 fI fd ["self", f, g] (spErr2 f g C) ∧ Binds X.K fd ["self", f, g] []) (hr : Room 2 X.A) (ha : PA X [e, e2] t) (hg : Gl X x := by rfl)
    (hdb : (x == ("__debug__" : Str)) = false := by decide) (he : starEach (e :: [e2]) X.env = (false, eval e X.env) :: starEach [e2] X.env := by rfl) (hpl : (backTo pos (starEach [e2] X.env)).any (·.1) = false := by rfl) :
    PMk X (.Call (.Name x p) [e, e2] [] pos) (tErr2 f g C t) := by
  intro pins s σ H Q I h
  obtain ⟨fI, fd, i1, i2, i3⟩ := T.ini
  obtain ⟨f1, f2⟩ := F fI fd i3
  refine pmk_base T.o i1 i2 f1 hr f2 .nil pass0 hg T.g ha.up hdb he hpl pins s σ H Q I ⟨_, h, fun vs H1 q => ?_⟩
  obtain ⟨v, u, rfl, q⟩ := q
  refine ⟨by show 2 ≤ 1000; decide, fun a na => ⟨a, v, u, rfl, upd_same, fun d hd ne => ⟨rfl, d, [(g, u), (f, v)], upd_same, (upd_ne ne).trans upd_same, ?_, ?_⟩⟩⟩
  · rwa [upd_ne ne] at hd
  · rw [upd_ne ne] at hd
    rw [err_heap na ne]
    exact q d hd
theorem ps_raiseB2 (hc : X.calm = true) (T : ErrB X.K X.mg x C st qual B newId initId bmB) (F : ∀ fI fd, Fun X.K "__init__" qual st fI fd → FnOk X.prog X.w X.K X.mg X.base CX0 1 fI fd ["self", f, g] (spErr2 f g C) ∧ Binds X.K fd ["self", f, g] []) (hr : Room 2 X.A) (tk : Takes X W) (ha : PA X [e, e2] t) (hg : Gl X x := by rfl)
    (hdb : (x == ("__debug__" : Str)) = false := by decide) (he : starEach (e :: [e2]) X.env = (false, eval e X.env) :: starEach [e2] X.env := by rfl) (hpl : (backTo pos (starEach [e2] X.env)).any (·.1) = false := by rfl) :
    PS X (.Raise (some (.Call (.Name x p) [e, e2] [] pos)) none pos2) (fun _ σ H => tErr2 f g C t σ H fun c d H' => W c d σ H') := ps_raise hc tk (pmk_errB2 T F hr ha hg hdb he hpl)
end
end L2

set_option maxHeartbeats 4000000
/-! an own error that is held as a value: isinstance of it, its fields -/
namespace ExB
open PySem PySem.W PySem.Calls PyProof.Rows
section
variable {prog : Program} {w : World} {A : Around} {E : Value → Shared → Prop} {K : Frag} {x D : Addr} {ob : Obj} {od : Option Obj}
/-- `__class__` of an instance of an own error class, whatever its own dict holds -/
theorem cls_any {Q : Option Value → Shared → Prop} {s : Shared} (T : L2.ExcC K D) (X : K.In s.heap) (I : InstAt s.heap x ob D od) (q : Q (some (.ref D)) { s with toks := s.toks + 1 }) : wpAny (model prog w) A (getAttr? (.ref x) "__class__") Q E s := by
  obtain ⟨cd, c, _⟩ := any_some T.hd
  have f : findObj K D od "__class__" = some (.bind (.builtin "getset_descriptor.__get__") (.builtin "object.__class__")) := by unfold findObj; simp [c, T.ha, T.hn, T.ht]
  obtain ⟨hp, g, dr, tk, os⟩ := s
  have lt := I.type (M := model prog w)
  have lf := looks_find (M := model prog w) X I f
  have lb : Looks (model prog w) hp (isInstance (.ref x) (.type "BaseException")) true := lt.andThen (looks_subIn X T.hs)
  have n1 : (Value.builtin "BaseException.__getattribute__" == Value.builtin "object.__getattribute__") = false := by decide +kernel
  have n2 : (onTheHeap (Value.ref D) && Value.builtin "BaseException.__getattribute__" == Value.builtin "object.__getattribute__") = false := by rw [n1]; rfl
  unfold getAttr? getAttrBy? getAttrBy
  refine wpAny_bind (wpAny_mkText (wpAny_bind (wpAny_attempt (wpAny_holding (wpAny_bind (lt.at (wpAny_bind ((looks_findIn X T.hg).at ?_))))))))
  show wpAny _ _ (if (onTheHeap (Value.ref D) && Value.builtin "BaseException.__getattribute__" == Value.builtin "object.__getattribute__") = true then _ else _) _ _ _
  rw [n2, if_neg (by decide)]
  unfold getAttrByItsOwn hookBefore
  refine wpAny_bind ?_
  rw [if_pos (show onTheHeap (Value.ref D) = true by rfl)]
  refine (looks_findIn X T.hk).at (wpAny_bind (wpAny_attempt (wpAny_holding ?_)))
  unfold callGetattribute
  rw [show (false && onTheHeap (Value.builtin "BaseException.__getattribute__")) = false by rfl, if_neg (by decide)]
  unfold boundAndCalled
  rw [F.excAttr_ValueError.ga.bind (.ref x)]
  refine wpAny_bind (wpAny_pure (wpAny_call (codeAny_call_builtin F.excAttr_ValueError.ga.plain F.entry_bexc_ga ?_)))
  refine @check_slot (model prog w) _ _ ⟨hp, g, dr, tk + 1, os⟩ "BaseException.__getattribute__" "BaseException" "__getattribute__" (.ref x) [.str "__class__" tk] [] _ (by decide +kernel) (by decide +kernel) lb (F.args_bexc_ga (.ref x) (.str "__class__" tk)) ?_
  unfold Builtin.«object.__getattribute__»
  refine wpAny_bind (wpAny_of_eq (a := ((Value.ref x : Value), [Value.str "__class__" tk])) (by first | rfl | (simp only [slotArgs]; rfl)) (wpAny_bind (wpAny_pure (wpAny_bind (lt.at (wpAny_bind (lf.at ?_)))))))
  show wpAny _ _ (holding [Value.builtin "object.__class__"] (call (.builtin "getset_descriptor.__get__") [.builtin "object.__class__", .ref x, .ref D]) >>= ret) _ _ _
  refine wpAny_bind (wpAny_holding (wpAny_call (class_get (s := ⟨hp, g, dr, tk + 1, os⟩) X I T.hm (wpAny_pure ?_))))
  show wpAny _ _ (handedOut (.ref D)) _ _ _
  rw [handedOut_of (show handedIn (.ref D) = true by rfl)]
  first
    | exact wpAny_pure (wpAny_pure q)
    | exact wpAny_pure q
    | exact wpAny_pure (wpAny_bind (wpAny_pure (wpAny_pure q)))
theorem kitx_err (T : L2.ExcC K D) : KitX K (.ref x) (.ref D) (fun h => ∃ ob od, InstAt h x ob D od) where
  ty := fun _ _ _ ⟨_, _, I⟩ => I.type
  it := fun _ _ X _ => by
    obtain ⟨cd, c, _⟩ := any_some T.hd
    unfold clsIn at c
    split at c
    · rename_i l
      intro A' Q' E' s' k q
      unfold isType loadHead
      exact wpAny_bind (wpAny_loadPart (k _ _ (X _ _ l)) (wpAny_pure q))
    · cases c
  ne := fun h tp dd its n sl X at_ => by
    obtain ⟨cd, c, _⟩ := any_some T.hd
    cases e : (Value.ref D == Value.ref tp) with
    | false => rfl
    | true =>
      cases beq_iff_eq.mp e
      unfold clsIn at c
      split at c
      · rename_i l
        cases (X _ _ l).symm.trans at_
      · cases c
  ca := fun X ⟨_, _, I⟩ k => cls_any T X I k
end
end ExB
namespace L2
open PySem PySem.Spec PyProof.Rows
/-- at a an error of the class at C with the fields fs; a plain one has no dict of its own -/
def ErrAt (H : Hp) (a C : Addr) (fs : List (Str × V)) : Prop := (H a = some (exo a C none) ∧ fs = []) ∨ ∃ d, H a = some (exo a C (some d)) ∧ H d = some (exd d fs)
theorem ErrAt.same {H H' : Hp} {a C : Addr} {fs : List (Str × V)} (e : ErrAt H a C fs) (s : ∀ b o, H b = some o → H' b = some o) : ErrAt H' a C fs := by
  rcases e with ⟨e, z⟩ | ⟨d, e, f⟩
  · exact .inl ⟨s _ _ e, z⟩
  · exact .inr ⟨d, s _ _ e, s _ _ f⟩
section
variable {X : Cx} {pins : List (Addr × Obj)} {σ : St} {H : Hp} {s : Shared}
theorem ErrAt.inst {a C : Addr} {fs : List (Str × V)} (I : Inv X pins σ H s) (e : ErrAt H a C fs) : ∃ ob od, PySem.W.InstAt s.heap a ob C od := by
  rcases e with ⟨e, _⟩ | ⟨d, e, f⟩
  · obtain ⟨t1, o⟩ := exo_at I.hok e
    exact ⟨_, none, o, rfl, rfl, trivial⟩
  · obtain ⟨t1, o⟩ := exo_at I.hok e
    obtain ⟨mA, ns, rel⟩ := exd_at I.hok f
    obtain ⟨oD, _, _, eD, _, _⟩ := ns.count (within_of rel)
    exact ⟨_, some oD, o, rfl, rfl, eD⟩
/-- isinstance(e, c), e an own error that is held -/
def rIsH (K : PySem.W.Frag) : List V → Hp → VK → Prop := fun xs H Q => ∃ (a D : Addr) (fs : List (Str × V)) (c : V) (cv : Value) (b : Bool), xs = [.ref a, c] ∧ ErrAt H a D fs ∧ ExcC K D ∧ ClsV c cv ∧ PySem.W.kitOne K (.ref D) cv = some b ∧ Q (.bl b) H
theorem call_isH : CallR X (.builtin "isinstance") (rIsH X.K) := by
  intro pins s σ H xs us Q I r h
  obtain ⟨a, D, fs, c, cv, b, rfl, e, T, k, ek, q⟩ := h
  obtain ⟨u1, u2, rfl, r1, r2⟩ := vals2 r
  cases (show u1 = Value.ref a from r1)
  cases k.eq r2
  exact PySem.W.kia_one (ExB.kitx_err T) I.kIn (e.inst I) ek (fun z => nomatch z) fun tk => ⟨.bl b, H, I.kept (t' := tk) fun _ _ z => z, rfl, q⟩
/-- e.f, e an own error that is held -/
def tXh (K : PySem.W.Frag) (f : Str) (te : TE) : TE := fun σ H Q => te σ H fun x H1 => ∃ (a C : Addr) (fs : List (Str × V)) (v : V), x = .ref a ∧ XfC K C ∧ PySem.W.findIn K (.ref C) f = some none ∧ ErrAt H1 a C fs ∧ fs.lookup f = some v ∧ Q v H1
theorem pe_xh {K : PySem.W.Frag} {e : Expr} {te : TE} {pos : Pos} {n : Str} (he : PE X e te) (hb : attributeBase e n X.env (eval e X.env) = eval e X.env) (hK : X.K = K := by rfl) : PE X (.Attribute e n pos) (tXh K n te) := by
  subst hK
  refine ⟨fun pins s σ H Q I h => attr_of hb (thn (he.run pins s σ H _ I h) fun u s1 ⟨x, H1, I1, rx, a, C, fs, v, ex, T, no, at_, l, q⟩ => ?_)⟩
  subst ex
  cases (show u = Value.ref a from rx)
  rcases at_ with ⟨_, rfl⟩ | ⟨d, ea, ed⟩
  · cases l
  · obtain ⟨t1, o⟩ := exo_at I1.hok ea
    obtain ⟨mA, ns, rel⟩ := exd_at I1.hok ed
    obtain ⟨oD, hD, look⟩ := lookIn_ns ns
    obtain ⟨u, eu, ru⟩ := RelO.some_of (v := v) (o := mA n) (by rw [← l]; exact rel n)
    have J : PySem.W.InstAt s1.heap a _ C (some oD) := ⟨o, rfl, rfl, hD⟩
    exact HandSPX.exc_get I1.kIn J T.ga T.gg T.exC (PySem.W.findObj_own T.hdC no rfl (by rw [look, eu])) (handed_of ru) ⟨v, H1, I1.tok _, ru, q⟩
end
end L2

set_option maxHeartbeats 4000000
/-! C(.., k = v, ..) of an own error class with its own __init__: the object is made, and __init__ gets the keywords -/
namespace ExB
open PySem PySem.W PySem.Calls PyProof.Rows Builtin Builtin.ObjectAttr
section
variable {prog : Program} {w : World} {A : Around} {E : Value → Shared → Prop} {R : Result → Shared → Prop} {h : Heap} {g : Array GenState} {dr : Drawn} {t : Nat} {os : OsState}
variable {nm qn : Str} {C N fI : Addr} {bs bm bmB vs : List Value} {hd : Bool} {sn : List Str} {sb : List Value} {ab : Bool} {co : Option Bool} {dd : Option Addr} {a0 a1 a2 a3 a5 : Option Value} {B nw ini : String} {kw : List (Str × Value)}
theorem chk_new {Q : Unit → Shared → Prop} (F : ExcBaseFacts B nw ini bmB) (hT : ∀ y : String, bm.contains (.type y) = bmB.contains (.type y)) (hC : h.get? C = some (excClassObj nm qn C N bs bm hd sn sb ab co dd a0 a1 a2 a3 a5 nw)) (q : Q () ⟨h, g, dr, t, os⟩) :
    wpAny (model prog w) A (checkBuiltinCall nw ⟨.ref C :: vs, kw⟩) Q E ⟨h, g, dr, t, os⟩ := by
  have under : (Value.ref C :: bm).contains (.type B) = true := by rw [List.contains_cons, hT B, F.hasB]; simp
  have noStar := F.noStar
  simp only [checkBuiltinCall, F.newKind, F.newSplit, F.newRow]
  repeat (first | refine wpAny_loadPart_at hC ?_ | (refine wpAny_isSubtype_exc hC ?_; rw [under]) | refine wpAny_staticBase_exc hC ?_ | refine wpAny_madeBy_exc hC ?_ | simp only [bne_self_eq_false, Bool.false_eq_true, if_false] | wp_step)
  first | exact q | skip
theorem chk_call {Q : Unit → Shared → Prop} (hC : h.get? C = some (excClassObj nm qn C N bs bm hd sn sb ab co dd a0 a1 a2 a3 a5 nw)) (q : Q () ⟨h, g, dr, t, os⟩) :
    wpAny (model prog w) A (checkBuiltinCall "type.__call__" ⟨.ref C :: vs, kw⟩) Q E ⟨h, g, dr, t, os⟩ := by
  have f3 := tc_sub
  have ty : (⟨h, g, dr, t, os⟩ : Shared).TypeIs (.ref C) "type" := ⟨_, hC, rfl⟩
  simp only [checkBuiltinCall, tc_kind, tc_split]
  repeat (any_goals (first | assumption | with_reducible refine wpAny_loadPart_at hC ?_ | with_reducible refine wpAny_onRaise ?_ | with_reducible refine wpAny_map ?_ | wp_step))
theorem new_kw (F : ExcBaseFacts B nw ini bmB) (hT : ∀ y : String, bm.contains (.type y) = bmB.contains (.type y)) (hC : h.get? C = some (excClassObj nm qn C N bs bm hd sn sb ab co dd a0 a1 a2 a3 a5 nw)) (few : vs.length ≤ sizeLine)
    (q : R (.ok (.ret (.ref (h.objs.size + 1)))) ⟨(h.push (kdv_tup vs)).push (PX.excO C h.objs.size), g, dr, t, os⟩) : codeAny (model prog w) A (.builtin nw ⟨.ref C :: vs, kw⟩) R ⟨h, g, dr, t, os⟩ := by
  have ends := F.ends
  have c1 : (Value.ref C :: bm).contains (.type B) = true := by rw [List.contains_cons, hT B, F.hasB]; simp
  have c2 : (Value.ref C :: bm).contains (.type "AttributeError") = false := by rw [List.contains_cons, hT _, F.noAttr]; rfl
  have c3 : (Value.ref C :: bm).contains (.type "NameError") = false := by rw [List.contains_cons, hT _, F.noName]; rfl
  refine codeAny_builtinAt F.entry ?_
  unfold Builtin.«BaseException.__new__»
  refine PySem.wpAt_bind ?_
  show PySem.wpAt _ _ _ (stack >>= _) _ _ _
  refine PySem.wpAt_bind (PySem.wpAt_stack fun _ _ => PySem.wpAt_of_wpAny ?_)
  wp_walk
  refine PySem.wpAt_of_wpAny ?_
  rw [F.owner]
  repeat (first | with_reducible refine wpAny_madeHere_exc F.canon hC ?_ | with_reducible refine wpAny_loadPart_at hC ?_ | (with_reducible refine wpAny_isSubtype_exc hC ?_; first | rw [c1] | rw [c2] | rw [c3]) | wp_step)
  show R _ _
  rw [Heap.size_push]
  exact q
theorem type_kw {Q : Fin → Shared → Prop} (F : ExcBaseFacts B nw ini bmB) (hT : ∀ y : String, bm.contains (.type y) = bmB.contains (.type y)) (hC : h.get? C = some (excClassObj nm qn C N bs bm hd sn sb ab co dd a0 a1 a2 a3 a5 nw)) (few : vs.length ≤ sizeLine)
    (li : Looks (model prog w) h (typeLookup (.ref C) "__init__") (some (.ref fI))) (lb : ∀ me, Looks (model prog w) h (bindSpecial (.ref fI) me) (.ref fI, [me]))
    (q : codeAny (model prog w) A (.call (.ref fI) ⟨.ref (h.objs.size + 1) :: vs, kw⟩) (fun r s' => match r with | .ok (.ret v) => v = .none ∧ Q (.done (.ret (.ref (h.objs.size + 1)))) s' | .ok _ => False | .error e => E e s') ⟨(h.push (kdv_tup vs)).push (PX.excO C h.objs.size), g, dr, t, os⟩) :
    wpAny (model prog w) A (Builtin.«type.__call__» ⟨.ref C :: vs, kw⟩) Q E ⟨h, g, dr, t, os⟩ := by
  repeat (first | with_reducible refine wpAny_loadPart_at hC ?_ | with_reducible refine wpAny_madeBy_exc hC ?_ | wp_step)
  refine codeAny_call_builtin_code (Code.quiet_builtin _ F.quiet) (chk_new F hT hC (new_kw F hT hC few ?_))
  show wpAny _ _ _ _ _ _
  have old : ∀ b o, h.get? b = some o → ((h.push (kdv_tup vs)).push (PX.excO C h.objs.size)).get? b = some o := fun b o e => Heap.get?_push_of_some _ (Heap.get?_push_of_some _ e)
  have cls' := old _ _ hC
  have at_ : ((h.push (kdv_tup vs)).push (PX.excO C h.objs.size)).get? (h.objs.size + 1) = some (PX.excO C h.objs.size) := by heap_get
  have own : (Value.ref C :: bm).contains (.ref C) = true := by simp
  unfold isInstance
  repeat (first | with_reducible refine wpAny_loadPart_at at_ ?_ | (with_reducible refine wpAny_isSubtype_exc cls' ?_; rw [own]) | wp_step)
  show wpAny _ _ (typeLookup (.ref C) _) _ _ _
  refine (li.keeps old).at (wpAny_holding (wpAny_bind (((lb (.ref (h.objs.size + 1))).keeps old).at (wpAny_bind (wpAny_call (codeAny_mono q fun r s' z => ?_))))))
  rcases r with e | (v | _ | _ | _) <;> first | exact z | exact z.elim | skip
  obtain ⟨rfl, z⟩ := z
  first
    | exact wpAny_pure (wpAny_pure z)
    | (wp_walk; exact z)
theorem call_kw (F : ExcBaseFacts B nw ini bmB) (hT : ∀ y : String, bm.contains (.type y) = bmB.contains (.type y)) (hC : h.get? C = some (excClassObj nm qn C N bs bm hd sn sb ab co dd a0 a1 a2 a3 a5 nw)) (few : vs.length ≤ sizeLine)
    (li : Looks (model prog w) h (typeLookup (.ref C) "__init__") (some (.ref fI))) (lb : ∀ me, Looks (model prog w) h (bindSpecial (.ref fI) me) (.ref fI, [me]))
    (q : codeAny (model prog w) (A.under (.builtin "type.__call__" ⟨.ref C :: vs, kw⟩)) (.call (.ref fI) ⟨.ref (h.objs.size + 1) :: vs, kw⟩) (InitBack (h.objs.size + 1) R) ⟨(h.push (kdv_tup vs)).push (PX.excO C h.objs.size), g, dr, t, os⟩) :
    codeAny (model prog w) A (.call (.ref C) ⟨vs, kw⟩) R ⟨h, g, dr, t, os⟩ := by
  have f1 := tc_lookup
  have f2 := tc_bind (.ref C)
  have ty : (⟨h, g, dr, t, os⟩ : Shared).TypeIs (.ref C) "type" := ⟨_, hC, rfl⟩
  refine codeAny_of_tree ?_
  show wpAny _ _ (callAny (.ref C) _) _ _ _
  repeat (any_goals (first | assumption | with_reducible refine wpAny_loadPart_at hC ?_ | wp_step))
  refine ⟨rfl, ?_⟩
  refine codeAny_call_builtin_at (Code.quiet_builtin _ (by decide +kernel)) entry_typeCall (chk_call hC (type_kw F hT hC few li lb ?_))
  refine codeAny_mono q fun r s' z => ?_
  rcases r with e | (v | _ | _ | _) <;> exact z
end
end ExB

set_option maxHeartbeats 4000000
/-! own errors made as values: by place, by name, or of nothing -/
namespace L2
open PySem PySem.Spec PyProof.Rows
def ErrV (H : Hp) (v : V) (e : Addr × List (Str × V)) : Prop := ∃ a, v = .ref a ∧ ErrAt H a e.1 e.2
theorem ErrV.same {H H' : Hp} {v : V} {e : Addr × List (Str × V)} (h : ErrV H v e) (s : Same H H') : ErrV H' v e := let ⟨a, z, q⟩ := h; ⟨a, z, q.same s⟩
theorem paired_map {α β : Type} {R S : α → β → Prop} (f : ∀ x y, R x y → S x y) : ∀ {xs : List α} {ys : List β}, Paired R xs ys → Paired S xs ys
  | _, _, .nil => .nil
  | _, _, .cons r t => .cons (f _ _ r) (paired_map f t)
theorem paired_app {α β : Type} {R : α → β → Prop} : ∀ {xs zs : List α} {ys us : List β}, Paired R xs ys → Paired R zs us → Paired R (xs ++ zs) (ys ++ us)
  | _, _, _, _, .nil, q => q
  | _, _, _, _, .cons r t, q => .cons r (paired_app t q)
abbrev ErrsV (H : Hp) (vs : List V) (es : List (Addr × List (Str × V))) : Prop := Paired (ErrV H) vs es
theorem ErrsV.same {H H' : Hp} {vs : List V} {es : List (Addr × List (Str × V))} (h : ErrsV H vs es) (s : Same H H') : ErrsV H' vs es := paired_map (fun _ _ q => q.same s) h
section
variable {X : Cx} {C fI : Addr} {k : Nat} {fd : FuncData} {ps : List Str} {sp : Sp} {B newId initId : String} {bmB : List Value} {pins : List (Addr × Obj)} {σ : St} {H : Hp} {s : Shared} {Q : VK}
/-- the making of an error: its own __init__ keeps sp -/
theorem run_err {us : List Value} {kw : List (Str × Value)} {all : List V} {alls : List Value} (T : OexB X.K C B newId initId bmB) (ini : PySem.W.findIn X.K (.ref C) "__init__" = some (some (.ref fI))) (ity : PySem.W.typeIn X.K (.ref fI) = some (.type "function"))
    (F1 : FnOk X.prog X.w X.K X.mg X.base CX0 k fI fd ps sp) (hr : Room (k + 1) X.A) (I : Inv X pins σ H s) (few : us.length ≤ sizeLine) (rv : Vals all alls)
    (hb : ∀ (s : Shared) (me : Value), PySem.W.Frag.In X.K s.heap → BindsTo s fd ⟨me :: us, kw⟩ (ps.zip (me :: alls)))
    (h : ∀ a, H a = none → sp (.ref a :: all) (upd H a (exo a C none)) (fun v H2 => v = .non ∧ Q (.ref a) H2) (fun _ _ _ => False)) : wpAny (model X.prog X.w) X.A (call (.ref C) us kw) (EP X pins σ Q) X.xe s := by
  obtain ⟨_, _, _, _, bm, _, _, _, _, _, _, _, _, _, _, cC, tl⟩ := T.cls
  obtain ⟨hp, g, dr, tk, os⟩ := s
  let at_ : Addr := hp.objs.size + 1
  let laid : Heap := (hp.push (PySem.W.kdv_tup us)).push (PySem.PX.excO C hp.objs.size)
  have up : hp.objs.size ≤ at_ := Nat.le_succ _
  have q2 := h at_ (I.hok.fresh up)
  have old : ∀ b o, hp.get? b = some o → laid.get? b = some o := fun b o z => Heap.get?_push_of_some _ (Heap.get?_push_of_some _ z)
  have new : laid.get? at_ = some (PySem.PX.excO C hp.objs.size) := by
    show ((hp.push (PySem.W.kdv_tup us)).push (PySem.PX.excO C hp.objs.size)).get? (hp.objs.size + 1) = _
    heap_get
  have I2 : Inv X pins σ (upd H at_ (exo at_ C none)) ⟨laid, g, dr, tk, os⟩ := I.laid (t' := tk) old up (exo_ok new)
  refine wpAny_call (ExB.call_kw T.fb (fun Y => PySem.W.excTail_contains Y bm tl) (I.kIn _ _ cC) few (PySem.W.looks_findIn I.kIn ini) (fun me => PySem.W.bind_fn I.kIn me ity) ?_)
  refine codeAny_mono (F1.run _ X.stack _ _ ⟨Value.ref at_ :: us, kw⟩ (Value.ref at_ :: alls) _ _ (fun _ _ _ => False) (hr.make C us kw) (I2.env0.make C us kw) (hb _ _ I2.kIn) (.cons (show RelV (V.ref at_) (Value.ref at_) from rfl) rv) q2) fun r s' z => ?_
  match r, z with
  | .error er, z => exact pass0 pins σ _ _ er s' I2 z
  | .ok (.ret u), z =>
    obtain ⟨v, H', I3, rv', ev, q3⟩ := I2.after z
    subst ev
    exact ⟨rv', ⟨V.ref at_, H', I3, rfl, q3⟩⟩
/-- the making of one whose __init__ is BaseException's -/
theorem run_err0 (Fb : ExcBaseFacts B newId initId bmB) (q : PySem.W.excIn X.K C bmB newId = true) (I : Inv X pins σ H s) (h : ∀ a, H a = none → Q (.ref a) (upd H a (exo a C none))) : wpAny (model X.prog X.w) X.A (call (.ref C) [] []) (EP X pins σ Q) X.xe s := by
  obtain ⟨bm, N, nm, qn, bs, hdct, sn, sub, ab, col, dd, k0, k1, k2, k3, k5, mN, hC, hN, hni, T⟩ := exc_obj I.kIn q
  obtain ⟨hp, g, dr, tk, os⟩ := s
  refine wpAny_call_exc_subT Fb T hC hN hni (fun h' a m => ?_) (by decide)
  have n : H a = none := I.hok.gone m.new
  obtain ⟨t, ht, _, _⟩ := m.there
  exact ⟨.ref a, upd H a (exo a C none), I.laidN m.keeps m.new n (exo_ok ht), rfl, h a n⟩
end
/-! ### how the law makes them: of the names in slots -/
inductive Mk1 where
  | none (C : Addr)
  | one (C : Addr) (f : Str) (i : Nat)
  | two (C : Addr) (f g : Str) (i j : Nat)
def slotV (σ : St) (i : Nat) : Option V := (σ[i]?).bind id
def Mk1.at (σ : St) : Mk1 → Option (Addr × List (Str × V))
  | .none C => some (C, [])
  | .one C f i => (slotV σ i).map fun v => (C, [(f, v)])
  | .two C f g i j => (slotV σ i).bind fun v => (slotV σ j).map fun u => (C, [(g, u), (f, v)])
def tMk (d : Mk1) : TE := fun σ H Q => ∃ e, d.at σ = some e ∧ ∀ a H', Same H H' → ErrAt H' a e.1 e.2 → Q (.ref a) H'
def atAll (σ : St) : List Mk1 → Option (List (Addr × List (Str × V)))
  | [] => some []
  | d :: ds => (d.at σ).bind fun e => (atAll σ ds).map fun es => e :: es
def tMks (ds : List Mk1) : TA := fun σ H Q => ∃ es, atAll σ ds = some es ∧ ∀ vs H', Same H H' → ErrsV H' vs es → Q vs H'
section
variable {X : Cx}
theorem PA.imp {es : List Expr} {t t' : TA} (h : PA X es t) (i : ∀ σ H Q, t' σ H Q → t σ H Q) : PA X es t' := ⟨fun pos pins s σ H Q I q => h.run pos pins s σ H Q I (i σ H Q q)⟩
theorem pam_nil : PA X [] (tMks []) := pa_nil.imp fun σ H Q ⟨es, e, q⟩ => by
  cases e
  exact q [] H (Same.refl _) .nil
theorem pam_cons {e : Expr} {es : List Expr} {d : Mk1} {ds : List Mk1} (he : PE X e (tMk d)) (ht : PA X es (tMks ds)) (hs : starEach (e :: es) X.env = (false, eval e X.env) :: starEach es X.env := by rfl) : PA X (e :: es) (tMks (d :: ds)) :=
  (pa_cons he ht hs).imp fun σ H Q ⟨es', e', q⟩ => by
    obtain ⟨x, hx, e2⟩ := Option.bind_eq_some_iff.mp e'
    obtain ⟨xs, hxs, rfl⟩ := Option.map_eq_some_iff.mp e2
    exact ⟨x, hx, fun a H1 s1 r1 => ⟨xs, hxs, fun vs H2 s2 r2 => q _ H2 (s1.trans s2) (.cons (ErrV.same ⟨a, rfl, r1⟩ s2) r2)⟩⟩
end
/-- what the class x, at C, says: its own __init__ is st -/
structure ErrI (K : PySem.W.Frag) (mg : Str → Option Value) (x : Str) (C : Addr) (st : Stmt) (qual : Str) : Prop where
  g : mg x = some (.ref C)
  kp : PySem.W.keepIn K (.ref C) = true
  ini : ∃ (B newId initId : String) (bmB : List Value) (fI : Addr) (fd : FuncData), OexB K C B newId initId bmB ∧ PySem.W.findIn K (.ref C) "__init__" = some (some (.ref fI)) ∧ PySem.W.typeIn K (.ref fI) = some (.type "function") ∧ Fun K "__init__" qual st fI fd
section
variable {X : Cx} {x f g qual : Str} {C : Addr} {st : Stmt} {p pos : Pos}
theorem vals_of1 {v : V} {us : List Value} (h : Vals [v] us) : ∃ u, us = [u] ∧ RelV v u := by
  cases h with
  | cons r t =>
    cases t
    exact ⟨_, rfl, r⟩
/-- an __init__ with one parameter that is stored under its name -/
def Ini1 (X : Cx) (st : Stmt) (qual f : Str) (C : Addr) : Prop := ∀ fI fd, Fun X.K "__init__" qual st fI fd → FnOk X.prog X.w X.K X.mg X.base CX0 1 fI fd ["self", f] (spErr f C) ∧ (∀ (s : Shared) (me u : Value), BindsTo s fd ⟨[me, u], []⟩ [("self", me), (f, u)]) ∧ ∀ (s : Shared) (me u : Value), BindsTo s fd ⟨[me], [(f, u)]⟩ [("self", me), (f, u)]
def Ini2 (X : Cx) (st : Stmt) (qual f g : Str) (C : Addr) : Prop := ∀ fI fd, Fun X.K "__init__" qual st fI fd → FnOk X.prog X.w X.K X.mg X.base CX0 1 fI fd ["self", f, g] (spErr2 f g C) ∧
  (∀ (s : Shared) (me u v : Value), BindsTo s fd ⟨[me, u, v], []⟩ [("self", me), (f, u), (g, v)]) ∧ ∀ (s : Shared) (me u v : Value), BindsTo s fd ⟨[me], [(g, v), (f, u)]⟩ [("self", me), (f, u), (g, v)]
theorem err1_end {H : Hp} {Q : VK} {v : V} (q : ∀ a H', Same H H' → ErrAt H' a C [(f, v)] → Q (.ref a) H') : ∀ a, H a = none → spErr f C [.ref a, v] (upd H a (exo a C none)) (fun u H2 => u = .non ∧ Q (.ref a) H2) (fun _ _ _ => False) := fun a na =>
  ⟨a, v, rfl, upd_same, fun d nd ne => ⟨rfl, by
    rw [upd_ne ne] at nd
    refine q a _ (fun b o e => ?_) (.inr ⟨d, upd_same, (upd_ne ne).trans upd_same⟩)
    rw [upd_ne (ne_of_none e na), upd_ne (ne_of_none e nd), upd_ne (ne_of_none e na)]
    exact e⟩⟩
theorem err2_end {H : Hp} {Q : VK} {v u : V} (q : ∀ a H', Same H H' → ErrAt H' a C [(g, u), (f, v)] → Q (.ref a) H') : ∀ a, H a = none → spErr2 f g C [.ref a, v, u] (upd H a (exo a C none)) (fun u H2 => u = .non ∧ Q (.ref a) H2) (fun _ _ _ => False) := fun a na =>
  ⟨a, v, u, rfl, upd_same, fun d nd ne => ⟨rfl, by
    rw [upd_ne ne] at nd
    refine q a _ (fun b o e => ?_) (.inr ⟨d, upd_same, (upd_ne ne).trans upd_same⟩)
    rw [upd_ne (ne_of_none e na), upd_ne (ne_of_none e nd), upd_ne (ne_of_none e na)]
    exact e⟩⟩
/-- x(y) -/
theorem pe_mk1 {e : Expr} {i : Nat} (T : ErrI X.K X.mg x C st qual) (F : Ini1 X st qual f C) (hr : Room 2 X.A) (he : PE X e (tVar i)) (hg : Gl X x := by rfl) (hdb : (x == ("__debug__" : Str)) = false := by decide)
    (hs : starEach [e] X.env = (false, eval e X.env) :: starEach [] X.env := by rfl) (hpl : (backTo pos (starEach [] X.env)).any (·.1) = false := by rfl) : PE X (.Call (.Name x p) [e] [] pos) (tMk (.one C f i)) := by
  refine ⟨fun pins s σ H Q I h => ?_⟩
  obtain ⟨d, hd, q⟩ := h
  obtain ⟨v, hv, rfl⟩ := Option.map_eq_some_iff.mp hd
  obtain ⟨o, ho, ev⟩ := Option.bind_eq_some_iff.mp hv
  cases (show o = some v from ev)
  obtain ⟨B, newId, initId, bmB, fI, fd, o1, o2, o3, o4⟩ := T.ini
  obtain ⟨f1, f2, _⟩ := F fI fd o4
  refine wpAny_Call_Name_kw (ld_glob I hg T.g ?_ hdb)
  refine PySem.W.callWith_K (h₀ := X.base) I.ok.mod.kin T.kp (thn ((pa_cons he pa_nil hs).run pos pins s σ H (fun vs H1 => vs = [v] ∧ H1 = H) I ⟨v, ho, rfl, rfl⟩) fun us s1 ⟨vs, H1, I1, r1, ez, eh⟩ => ⟨I1.kIn, ?_⟩) hs hpl
  subst ez eh
  obtain ⟨u, rfl, ru⟩ := vals_of1 r1
  exact run_err o1 o2 o3 f1 hr I1 (by first | (show 1 ≤ sizeLine; decide) | (show 0 ≤ sizeLine; decide)) r1 (fun s me _ => f2 s me u) (err1_end q)
/-- x(f=y) -/
theorem pe_mk1k {e : Expr} {i : Nat} {kp : Pos} (T : ErrI X.K X.mg x C st qual) (F : Ini1 X st qual f C) (hr : Room 2 X.A) (hk : PK X [⟨some f, e, kp⟩] (tCons (tVar i) tNil)) (hg : Gl X x := by rfl) (hdb : (x == ("__debug__" : Str)) = false := by decide)
    (hall : (backToKw pos (keywordEach [⟨some f, e, kp⟩] X.env)).all (·.1.isSome) = true := by rfl) (hks : (backToKw pos (keywordEach [⟨some f, e, kp⟩] X.env)).filterMap (·.1) = [f] := by rfl)
    (hpl : ((backTo pos (starEach [] X.env)).any (·.1) || (backToKw pos (keywordEach [⟨some f, e, kp⟩] X.env)).any (·.1.isNone)) = false := by rfl) : PE X (.Call (.Name x p) [] [⟨some f, e, kp⟩] pos) (tMk (.one C f i)) := by
  refine ⟨fun pins s σ H Q I h => ?_⟩
  obtain ⟨d, hd, q⟩ := h
  obtain ⟨v, hv, rfl⟩ := Option.map_eq_some_iff.mp hd
  obtain ⟨o, ho, ev⟩ := Option.bind_eq_some_iff.mp hv
  cases (show o = some v from ev)
  obtain ⟨B, newId, initId, bmB, fI, fd, o1, o2, o3, o4⟩ := T.ini
  obtain ⟨f1, _, f2⟩ := F fI fd o4
  refine wpAny_Call_Name_kw (ld_glob I hg T.g ?_ hdb)
  refine PySem.W.callWith_KW0 (h₀ := X.base) I.ok.mod.kin T.kp hall (thn (hk.run pos pins s σ H (fun vs H1 => vs = [v] ∧ H1 = H) I ⟨v, ho, rfl, rfl⟩) fun us s1 ⟨vs, H1, I1, r1, ez, eh⟩ => ⟨I1.kIn, ?_⟩) hpl
  subst ez eh
  obtain ⟨u, rfl, ru⟩ := vals_of1 r1
  rw [hks]
  exact run_err (us := []) o1 o2 o3 f1 hr I1 (by first | (show 1 ≤ sizeLine; decide) | (show 0 ≤ sizeLine; decide)) r1 (fun s me _ => f2 s me u) (err1_end q)
theorem two_at {σ : St} {i j : Nat} {d : Addr × List (Str × V)} (h : (Mk1.two C f g i j).at σ = some d) : ∃ v u, σ[i]? = some (some v) ∧ σ[j]? = some (some u) ∧ d = (C, [(g, u), (f, v)]) := by
  obtain ⟨v, hv, h⟩ := Option.bind_eq_some_iff.mp h
  obtain ⟨u, hu, rfl⟩ := Option.map_eq_some_iff.mp h
  obtain ⟨o, ho, ev⟩ := Option.bind_eq_some_iff.mp hv
  obtain ⟨o', ho', ev'⟩ := Option.bind_eq_some_iff.mp hu
  cases (show o = some v from ev)
  cases (show o' = some u from ev')
  exact ⟨v, u, ho, ho', rfl⟩
/-- x(y, z) -/
theorem pe_mk2 {e e2 : Expr} {i j : Nat} (T : ErrI X.K X.mg x C st qual) (F : Ini2 X st qual f g C) (hr : Room 2 X.A) (he : PE X e (tVar i)) (he2 : PE X e2 (tVar j)) (hg : Gl X x := by rfl) (hdb : (x == ("__debug__" : Str)) = false := by decide)
    (hs : starEach [e, e2] X.env = (false, eval e X.env) :: starEach [e2] X.env := by rfl) (hs2 : starEach [e2] X.env = (false, eval e2 X.env) :: starEach [] X.env := by rfl) (hpl : (backTo pos (starEach [e2] X.env)).any (·.1) = false := by rfl) : PE X (.Call (.Name x p) [e, e2] [] pos) (tMk (.two C f g i j)) := by
  refine ⟨fun pins s σ H Q I h => ?_⟩
  obtain ⟨d, hd, q⟩ := h
  obtain ⟨v, u, hv, hu, rfl⟩ := two_at hd
  obtain ⟨B, newId, initId, bmB, fI, fd, o1, o2, o3, o4⟩ := T.ini
  obtain ⟨f1, f2, _⟩ := F fI fd o4
  refine wpAny_Call_Name_kw (ld_glob I hg T.g ?_ hdb)
  refine PySem.W.callWith_K (h₀ := X.base) I.ok.mod.kin T.kp (thn ((pa_cons he (pa_cons he2 pa_nil hs2) hs).run pos pins s σ H (fun vs H1 => vs = [v, u] ∧ H1 = H) I ⟨v, hv, u, hu, rfl, rfl⟩) fun us s1 ⟨vs, H1, I1, r1, ez, eh⟩ => ⟨I1.kIn, ?_⟩) hs hpl
  subst ez eh
  obtain ⟨u1, u2, rfl, ra, rb⟩ := vals2 r1
  exact run_err o1 o2 o3 f1 hr I1 (by show 2 ≤ sizeLine; decide) r1 (fun s me _ => f2 s me u1 u2) (err2_end q)
/-- x(g=z, f=y) -/
theorem pe_mk2k {e e2 : Expr} {i j : Nat} {kp kp2 : Pos} (T : ErrI X.K X.mg x C st qual) (F : Ini2 X st qual f g C) (hr : Room 2 X.A) (hk : PK X [⟨some g, e2, kp⟩, ⟨some f, e, kp2⟩] (tCons (tVar j) (tCons (tVar i) tNil))) (hg : Gl X x := by rfl) (hdb : (x == ("__debug__" : Str)) = false := by decide)
    (hall : (backToKw pos (keywordEach [⟨some g, e2, kp⟩, ⟨some f, e, kp2⟩] X.env)).all (·.1.isSome) = true := by rfl) (hks : (backToKw pos (keywordEach [⟨some g, e2, kp⟩, ⟨some f, e, kp2⟩] X.env)).filterMap (·.1) = [g, f] := by rfl)
    (hpl : ((backTo pos (starEach [] X.env)).any (·.1) || (backToKw pos (keywordEach [⟨some g, e2, kp⟩, ⟨some f, e, kp2⟩] X.env)).any (·.1.isNone)) = false := by rfl) : PE X (.Call (.Name x p) [] [⟨some g, e2, kp⟩, ⟨some f, e, kp2⟩] pos) (tMk (.two C f g i j)) := by
  refine ⟨fun pins s σ H Q I h => ?_⟩
  obtain ⟨d, hd, q⟩ := h
  obtain ⟨v, u, hv, hu, rfl⟩ := two_at hd
  obtain ⟨B, newId, initId, bmB, fI, fd, o1, o2, o3, o4⟩ := T.ini
  obtain ⟨f1, _, f2⟩ := F fI fd o4
  refine wpAny_Call_Name_kw (ld_glob I hg T.g ?_ hdb)
  refine PySem.W.callWith_KW0 (h₀ := X.base) I.ok.mod.kin T.kp hall (thn (hk.run pos pins s σ H (fun vs H1 => vs = [u, v] ∧ H1 = H) I ⟨u, hu, v, hv, rfl, rfl⟩) fun us s1 ⟨vs, H1, I1, r1, ez, eh⟩ => ⟨I1.kIn, ?_⟩) hpl
  subst ez eh
  obtain ⟨u1, u2, rfl, ra, rb⟩ := vals2 r1
  rw [hks]
  exact run_err (us := []) o1 o2 o3 f1 hr I1 (by decide) (.cons rb (.cons ra .nil)) (fun s me _ => f2 s me u2 u1) (err2_end q)
/-- x() -/
theorem pe_mk0 {B newId initId : String} {bmB : List Value} (Fb : ExcBaseFacts B newId initId bmB) (eq : PySem.W.excIn X.K C bmB newId = true) (gC : X.mg x = some (.ref C)) (kp : PySem.W.keepIn X.K (.ref C) = true) (hg : Gl X x := by rfl) (hdb : (x == ("__debug__" : Str)) = false := by decide) :
    PE X (.Call (.Name x p) [] [] pos) (tMk (.none C)) := by
  refine ⟨fun pins s σ H Q I h => ?_⟩
  obtain ⟨d, hd, q⟩ := h
  cases hd
  refine wpAny_Call_Name_kw (ld_glob I hg gC ?_ hdb)
  exact PySem.W.callWith_K0 I.kIn kp (run_err0 Fb eq I fun a na => q a _ (fun b o e => by rw [upd_ne (ne_of_none e na)]; exact e) (.inl ⟨upd_same, rfl⟩))
end
end L2

set_option maxHeartbeats 4000000
/-! which classes an error of k14 stands under -/
namespace L2
open PySem PySem.Spec PyProof.Rows
def bix (i : Nat) : Nat := if 24 ≤ i ∧ i ≤ 28 then 1 else if i = 23 ∨ i = 31 ∨ i = 33 ∨ i = 36 then 2 else if i = 34 then 3 else 0
def bt : Nat → String
  | 0 => "ValueError"
  | 1 => "LookupError"
  | 2 => "RuntimeError"
  | _ => "ArithmeticError"
def tl (b : Nat) : List Value := [.type (bt b), .type "Exception", .type "BaseException", .type "object"]
theorem bix_lt (i : Nat) : bix i < 4 := by unfold bix; split <;> (try split) <;> (try split) <;> omega
structure Cl (K : PySem.W.Frag) (C S : Nat → Addr) : Prop where
  mro : ∀ i, i < 37 → ∃ cd, PySem.W.clsIn K (C i) = some cd ∧ cd.mro = .ref (C i) :: .ref (S (bix i)) :: tl (bix i)
  ex : ∀ i, i < 37 → ExcC K (C i)
  xf : ∀ i, i < 37 → XfC K (C i)
  tc : ∀ i, i < 37 → PySem.W.typeIn K (.ref (C i)) = some (.type "type")
  sc : ∀ b, b < 4 → PySem.W.isClsIn K (S b) = true ∧ PySem.W.typeIn K (.ref (S b)) = some (.type "type") ∧ PySem.W.subIn K (.ref (S b)) (.type "BaseException") = some true
  inj : ∀ i j, i < 37 → j < 37 → C i = C j → i = j
  ne : ∀ i b, i < 37 → b < 4 → C i ≠ S b
  sinj : ∀ b c, b < 4 → c < 4 → S b = S c → b = c
section
variable {K : PySem.W.Frag} {C S : Nat → Addr}
theorem kit_ref {D E : Addr} (c : PySem.W.isClsIn K E = true) (t : PySem.W.typeIn K (.ref E) = some (.type "type")) (m : List Value) (cd : ClassData) (h1 : PySem.W.clsIn K D = some cd) (h2 : cd.mro = .ref D :: m) :
    PySem.W.kitOne K (.ref D) (.ref E) = some ((Value.ref D :: m).contains (.ref E)) := by
  unfold PySem.W.kitOne
  by_cases e : (Value.ref D == Value.ref E) = true
  · rw [if_pos e]
    simp only [beq_iff_eq] at e
    cases e
    simp
  · rw [if_neg e]
    show (if ((PySem.W.clsIn K E).isSome && PySem.W.typeIn K (.ref E) == some (.type "type")) = true then PySem.W.subIn K (.ref D) (.ref E) else none) = _
    rw [if_pos (by rw [show (PySem.W.clsIn K E).isSome = true from c, t]; simp)]
    show PySem.W.mroIn K D (.ref E) = _
    unfold PySem.W.mroIn
    rw [h1]
    simp [h2]
theorem Cl.leaf (T : Cl K C S) {i j : Nat} (hi : i < 37) (hj : j < 37) : PySem.W.kitOne K (.ref (C i)) (.ref (C j)) = some (decide (i = j)) := by
  obtain ⟨cd, h1, h2⟩ := T.mro i hi
  obtain ⟨cj, g1, _⟩ := T.mro j hj
  rw [kit_ref (by unfold PySem.W.isClsIn; rw [g1]; rfl) (T.tc j hj) _ cd h1 h2]
  have n : ¬ C j = S (bix i) := T.ne j _ hj (bix_lt i)
  congr 1
  by_cases e : i = j
  · subst e; simp
  · have n1 : ¬ C j = C i := fun q => e (T.inj j i hj hi q).symm
    simp [n1, n, tl, e]
theorem Cl.base (T : Cl K C S) {i b : Nat} (hi : i < 37) (hb : b < 4) : PySem.W.kitOne K (.ref (C i)) (.ref (S b)) = some (decide (bix i = b)) := by
  obtain ⟨cd, h1, h2⟩ := T.mro i hi
  rw [kit_ref (T.sc b hb).1 (T.sc b hb).2.1 _ cd h1 h2]
  have n : ¬ S b = C i := fun q => T.ne i b hi hb q.symm
  congr 1
  by_cases e : bix i = b
  · simp [e]
  · have n1 : ¬ S b = S (bix i) := fun q => e (T.sinj b _ hb (bix_lt i) q).symm
    simp [n1, n, tl, e]
theorem Cl.built (T : Cl K C S) {i b : Nat} (hi : i < 37) (hb : b < 4) : PySem.W.kitOne K (.ref (C i)) (.type (bt b)) = some (decide (bix i = b)) := by
  obtain ⟨cd, h1, h2⟩ := T.mro i hi
  have hx := bix_lt i
  unfold PySem.W.kitOne
  rw [if_neg (by intro q; cases beq_iff_eq.mp q)]
  have km : PySem.W.kitMeta (bt b) = true := by
    have : b = 0 ∨ b = 1 ∨ b = 2 ∨ b = 3 := by omega
    rcases this with rfl | rfl | rfl | rfl <;> decide +kernel
  show (if PySem.W.kitMeta (bt b) = true then PySem.W.subIn K (.ref (C i)) (.type (bt b)) else none) = _
  rw [if_pos km]
  show PySem.W.mroIn K (C i) (.type (bt b)) = _
  unfold PySem.W.mroIn
  rw [h1]
  generalize bix i = x at h2 hx ⊢
  simp only [Option.bind_some, h2, List.isEmpty_cons, Bool.false_eq_true, if_false]
  congr 1
  have hx' : x = 0 ∨ x = 1 ∨ x = 2 ∨ x = 3 := by omega
  have hb' : b = 0 ∨ b = 1 ∨ b = 2 ∨ b = 3 := by omega
  rcases hx' with rfl | rfl | rfl | rfl <;> rcases hb' with rfl | rfl | rfl | rfl <;> rfl
end
theorem Cl.exm {K : PySem.W.Frag} {C S : Nat → Addr} (T : Cl K C S) {i b : Nat} (hi : i < 37) (hb : b < 4) : PySem.W.exmOne K (.ref (C i)) (.ref (S b)) = some (decide (bix i = b)) := by
  have h := T.base hi hb
  unfold PySem.W.kitOne at h
  rw [if_neg (fun q => T.ne i b hi hb (Value.ref.inj (beq_iff_eq.mp q)))] at h
  unfold PySem.W.exmOne
  rw [if_pos (by rw [(T.sc b hb).2.2]; simp)]
  exact h
/-! ### rows of isinstance(e, ..) -/
/-- isinstance(the value of slot i, the class cv) -/
def tIs (K : PySem.W.Frag) (i : Nat) (cv : Value) : TE := fun σ H Q => ∃ a D fs b, slotV σ i = some (.ref a) ∧ ErrAt H a D fs ∧ ExcC K D ∧ PySem.W.kitOne K (.ref D) cv = some b ∧ Q (.bl b) H
def tIss (K : PySem.W.Frag) (i : Nat) (cvs : List Value) : TA := fun σ H Q => ∃ a D fs bs, slotV σ i = some (.ref a) ∧ ErrAt H a D fs ∧ ExcC K D ∧ Paired (fun cv b => PySem.W.kitOne K (.ref D) cv = some b) cvs bs ∧ Q (bs.map V.bl) H
section
variable {X : Cx} {i : Nat} {p1 p2 pos : Pos} {x y : Str}
theorem slot_at {σ : St} {v : V} (h : slotV σ i = some v) : σ[i]? = some (some v) := by
  obtain ⟨o, ho, ev⟩ := Option.bind_eq_some_iff.mp h
  cases (show o = some v from ev)
  exact ho
theorem pe_is {e1 e2 : Expr} {c : V} {cv : Value} (K : PySem.W.Frag) (hK : X.K = K) (he : PE X e1 (tVar i)) (hc : PE X e2 (tC c)) (k : ClsV c cv) (mi : X.mg "isinstance" = none) (hs : starEach [e1, e2] X.env = (false, eval e1 X.env) :: starEach [e2] X.env := by rfl) (hs2 : starEach [e2] X.env = (false, eval e2 X.env) :: starEach [] X.env := by rfl)
    (hpl : (backTo pos (starEach [e2] X.env)).any (·.1) = false := by rfl) (hg : Gl X "isinstance" := by rfl) : PE X (.Call (.Name "isinstance" p1) [e1, e2] [] pos) (tIs K i cv) := by
  subst hK
  refine PE.imp (pe_callB call_isH hg mi (by decide +kernel) (pa_cons he (pa_cons hc pa_nil hs2) hs) (he := hs) (hpl := hpl)) fun σ H Q ⟨a, D, fs, b, h1, h2, h3, h4, q⟩ => ?_
  exact ⟨_, slot_at h1, a, D, fs, c, cv, b, rfl, h2, h3, k, h4, q⟩
theorem pai_nil (K : PySem.W.Frag) : PA X [] (tIss K i []) := pa_nil.imp fun σ H Q ⟨a, D, fs, bs, _, _, _, p, q⟩ => by
  cases p
  exact q
theorem pai_cons {e : Expr} {es : List Expr} {cv : Value} {cvs : List Value} {K : PySem.W.Frag} (he : PE X e (tIs K i cv)) (ht : PA X es (tIss K i cvs)) (hs : starEach (e :: es) X.env = (false, eval e X.env) :: starEach es X.env := by rfl) : PA X (e :: es) (tIss K i (cv :: cvs)) :=
  (pa_cons he ht hs).imp fun σ H Q ⟨a, D, fs, bs, h1, h2, h3, p, q⟩ => by
    cases p with
    | cons r t => exact ⟨a, D, fs, _, h1, h2, h3, r, a, D, fs, _, h1, h2, h3, t, q⟩
end
end L2

set_option maxHeartbeats 4000000
namespace N
open PySem L2
abbrev s_InvalidName___init__ : Stmt := inClass (top 2) 0
theorem sc_InvalidNameD_initD : FnScope ["self", "value"] ["self", "value"] (defScope s_InvalidName___init__) := ⟨rfl, rfl, rfl, by decide +kernel, rfl, by decide +kernel, by decide +kernel⟩
abbrev s_InvalidNumber___init__ : Stmt := inClass (top 3) 0
theorem sc_InvalidNumberD_initD : FnScope ["self", "value"] ["self", "value"] (defScope s_InvalidNumber___init__) := ⟨rfl, rfl, rfl, by decide +kernel, rfl, by decide +kernel, by decide +kernel⟩
abbrev s_InvalidKind___init__ : Stmt := inClass (top 4) 0
theorem sc_InvalidKindD_initD : FnScope ["self", "value"] ["self", "value"] (defScope s_InvalidKind___init__) := ⟨rfl, rfl, rfl, by decide +kernel, rfl, by decide +kernel, by decide +kernel⟩
abbrev s_InvalidWord___init__ : Stmt := inClass (top 6) 0
theorem sc_InvalidWordD_initD : FnScope ["self", "value"] ["self", "value"] (defScope s_InvalidWord___init__) := ⟨rfl, rfl, rfl, by decide +kernel, rfl, by decide +kernel, by decide +kernel⟩
abbrev s_InvalidCounts___init__ : Stmt := inClass (top 10) 0
theorem sc_InvalidCountsD_initD : FnScope ["self", "value"] ["self", "value"] (defScope s_InvalidCounts___init__) := ⟨rfl, rfl, rfl, by decide +kernel, rfl, by decide +kernel, by decide +kernel⟩
abbrev s_InvalidSection___init__ : Stmt := inClass (top 11) 0
theorem sc_InvalidSectionD_initD : FnScope ["self", "value"] ["self", "value"] (defScope s_InvalidSection___init__) := ⟨rfl, rfl, rfl, by decide +kernel, rfl, by decide +kernel, by decide +kernel⟩
abbrev s_InvalidEdge___init__ : Stmt := inClass (top 12) 0
theorem sc_InvalidEdgeD_initD : FnScope ["self", "value"] ["self", "value"] (defScope s_InvalidEdge___init__) := ⟨rfl, rfl, rfl, by decide +kernel, rfl, by decide +kernel, by decide +kernel⟩
abbrev s_InvalidWay___init__ : Stmt := inClass (top 14) 0
theorem sc_InvalidWayD_initD : FnScope ["self", "value"] ["self", "value"] (defScope s_InvalidWay___init__) := ⟨rfl, rfl, rfl, by decide +kernel, rfl, by decide +kernel, by decide +kernel⟩
abbrev s_InvalidSketch___init__ : Stmt := inClass (top 20) 0
theorem sc_InvalidSketchD_initD : FnScope ["self", "value"] ["self", "value"] (defScope s_InvalidSketch___init__) := ⟨rfl, rfl, rfl, by decide +kernel, rfl, by decide +kernel, by decide +kernel⟩
abbrev s_InvalidPattern___init__ : Stmt := inClass (top 21) 0
theorem sc_InvalidPatternD_initD : FnScope ["self", "value"] ["self", "value"] (defScope s_InvalidPattern___init__) := ⟨rfl, rfl, rfl, by decide +kernel, rfl, by decide +kernel, by decide +kernel⟩
abbrev s_InvalidForm___init__ : Stmt := inClass (top 23) 0
theorem sc_InvalidFormD_initD : FnScope ["self", "value"] ["self", "value"] (defScope s_InvalidForm___init__) := ⟨rfl, rfl, rfl, by decide +kernel, rfl, by decide +kernel, by decide +kernel⟩
abbrev s_InvalidPoint___init__ : Stmt := inClass (top 24) 0
theorem sc_InvalidPointD_initD : FnScope ["self", "value"] ["self", "value"] (defScope s_InvalidPoint___init__) := ⟨rfl, rfl, rfl, by decide +kernel, rfl, by decide +kernel, by decide +kernel⟩
abbrev s_InvalidFamily___init__ : Stmt := inClass (top 26) 0
theorem sc_InvalidFamilyD_initD : FnScope ["self", "value"] ["self", "value"] (defScope s_InvalidFamily___init__) := ⟨rfl, rfl, rfl, by decide +kernel, rfl, by decide +kernel, by decide +kernel⟩
abbrev s_InvalidCommand___init__ : Stmt := inClass (top 28) 0
theorem sc_InvalidCommandD_initD : FnScope ["self", "value"] ["self", "value"] (defScope s_InvalidCommand___init__) := ⟨rfl, rfl, rfl, by decide +kernel, rfl, by decide +kernel, by decide +kernel⟩
abbrev s_InvalidParts___init__ : Stmt := inClass (top 7) 0
theorem sc_InvalidPartsD_initD : FnScope ["self", "position"] ["self", "position"] (defScope s_InvalidParts___init__) := ⟨rfl, rfl, rfl, by decide +kernel, rfl, by decide +kernel, by decide +kernel⟩
abbrev s_InvalidTexts___init__ : Stmt := inClass (top 9) 0
theorem sc_InvalidTextsD_initD : FnScope ["self", "position"] ["self", "position"] (defScope s_InvalidTexts___init__) := ⟨rfl, rfl, rfl, by decide +kernel, rfl, by decide +kernel, by decide +kernel⟩
abbrev s_InvalidRows___init__ : Stmt := inClass (top 13) 0
theorem sc_InvalidRowsD_initD : FnScope ["self", "position"] ["self", "position"] (defScope s_InvalidRows___init__) := ⟨rfl, rfl, rfl, by decide +kernel, rfl, by decide +kernel, by decide +kernel⟩
abbrev s_InvalidCastOn___init__ : Stmt := inClass (top 15) 0
theorem sc_InvalidCastOnD_initD : FnScope ["self", "position"] ["self", "position"] (defScope s_InvalidCastOn___init__) := ⟨rfl, rfl, rfl, by decide +kernel, rfl, by decide +kernel, by decide +kernel⟩
abbrev s_InvalidSteps___init__ : Stmt := inClass (top 16) 0
theorem sc_InvalidStepsD_initD : FnScope ["self", "position"] ["self", "position"] (defScope s_InvalidSteps___init__) := ⟨rfl, rfl, rfl, by decide +kernel, rfl, by decide +kernel, by decide +kernel⟩
abbrev s_InvalidBlock___init__ : Stmt := inClass (top 17) 0
theorem sc_InvalidBlockD_initD : FnScope ["self", "position"] ["self", "position"] (defScope s_InvalidBlock___init__) := ⟨rfl, rfl, rfl, by decide +kernel, rfl, by decide +kernel, by decide +kernel⟩
abbrev s_InvalidStretches___init__ : Stmt := inClass (top 18) 0
theorem sc_InvalidStretchesD_initD : FnScope ["self", "position"] ["self", "position"] (defScope s_InvalidStretches___init__) := ⟨rfl, rfl, rfl, by decide +kernel, rfl, by decide +kernel, by decide +kernel⟩
abbrev s_InvalidSchedules___init__ : Stmt := inClass (top 19) 0
theorem sc_InvalidSchedulesD_initD : FnScope ["self", "position"] ["self", "position"] (defScope s_InvalidSchedules___init__) := ⟨rfl, rfl, rfl, by decide +kernel, rfl, by decide +kernel, by decide +kernel⟩
abbrev s_InvalidCell___init__ : Stmt := inClass (top 25) 0
theorem sc_InvalidCellD_initD : FnScope ["self", "position"] ["self", "position"] (defScope s_InvalidCell___init__) := ⟨rfl, rfl, rfl, by decide +kernel, rfl, by decide +kernel, by decide +kernel⟩
abbrev s_BelowZero___init__ : Stmt := inClass (top 38) 0
theorem sc_BelowZeroD_initD : FnScope ["self", "position"] ["self", "position"] (defScope s_BelowZero___init__) := ⟨rfl, rfl, rfl, by decide +kernel, rfl, by decide +kernel, by decide +kernel⟩
abbrev s_UnknownKind___init__ : Stmt := inClass (top 30) 0
theorem sc_UnknownKindD_initD : FnScope ["self", "name"] ["self", "name"] (defScope s_UnknownKind___init__) := ⟨rfl, rfl, rfl, by decide +kernel, rfl, by decide +kernel, by decide +kernel⟩
abbrev s_NoBack___init__ : Stmt := inClass (top 31) 0
theorem sc_NoBackD_initD : FnScope ["self", "name"] ["self", "name"] (defScope s_NoBack___init__) := ⟨rfl, rfl, rfl, by decide +kernel, rfl, by decide +kernel, by decide +kernel⟩
abbrev s_NoMirror___init__ : Stmt := inClass (top 32) 0
theorem sc_NoMirrorD_initD : FnScope ["self", "name"] ["self", "name"] (defScope s_NoMirror___init__) := ⟨rfl, rfl, rfl, by decide +kernel, rfl, by decide +kernel, by decide +kernel⟩
abbrev s_UnknownPattern___init__ : Stmt := inClass (top 34) 0
theorem sc_UnknownPatternD_initD : FnScope ["self", "name"] ["self", "name"] (defScope s_UnknownPattern___init__) := ⟨rfl, rfl, rfl, by decide +kernel, rfl, by decide +kernel, by decide +kernel⟩
abbrev s_NoRow___init__ : Stmt := inClass (top 33) 0
theorem sc_NoRowD_initD : FnScope ["self", "number"] ["self", "number"] (defScope s_NoRow___init__) := ⟨rfl, rfl, rfl, by decide +kernel, rfl, by decide +kernel, by decide +kernel⟩
abbrev s_InvalidText___init__ : Stmt := inClass (top 8) 0
theorem sc_InvalidTextD_initD : FnScope ["self", "problem"] ["self", "problem"] (defScope s_InvalidText___init__) := ⟨rfl, rfl, rfl, by decide +kernel, rfl, by decide +kernel, by decide +kernel⟩
abbrev s_InvalidLine___init__ : Stmt := inClass (top 27) 0
theorem sc_InvalidLineD_initD : FnScope ["self", "line"] ["self", "line"] (defScope s_InvalidLine___init__) := ⟨rfl, rfl, rfl, by decide +kernel, rfl, by decide +kernel, by decide +kernel⟩
abbrev s_NotThrough___init__ : Stmt := inClass (top 37) 0
theorem sc_NotThroughD_initD : FnScope ["self", "outcome"] ["self", "outcome"] (defScope s_NotThrough___init__) := ⟨rfl, rfl, rfl, by decide +kernel, rfl, by decide +kernel, by decide +kernel⟩
abbrev s_InvalidBook___init__ : Stmt := inClass (top 5) 0
theorem sc_InvalidBookD_initD : FnScope ["self", "problem", "name"] ["self", "problem", "name"] (defScope s_InvalidBook___init__) := ⟨rfl, rfl, rfl, by decide +kernel, rfl, by decide +kernel, by decide +kernel⟩
abbrev s_NotFitting___init__ : Stmt := inClass (top 36) 0
theorem sc_NotFittingD_initD : FnScope ["self", "section", "loops"] ["self", "section", "loops"] (defScope s_NotFitting___init__) := ⟨rfl, rfl, rfl, by decide +kernel, rfl, by decide +kernel, by decide +kernel⟩
abbrev s_TooMany___init__ : Stmt := inClass (top 41) 0
theorem sc_TooManyD_initD : FnScope ["self", "what", "limit"] ["self", "what", "limit"] (defScope s_TooMany___init__) := ⟨rfl, rfl, rfl, by decide +kernel, rfl, by decide +kernel, by decide +kernel⟩
/-- a class with its own __init__, none of whose fields is a class attribute -/
abbrev EI (K : PySem.W.Frag) (mg : Str → Option Value) (x : Str) (C : Addr) (st : Stmt) (qual : Str) (fs : List Str) : Prop := ErrI K mg x C st qual ∧ ∀ f ∈ fs, PySem.W.findIn K (.ref C) f = some none
section
variable {X : Cx} {C : Addr}
theorem ini_InvalidName (T : EI X.K X.mg "InvalidName" C s_InvalidName___init__ "InvalidName.__init__" ["value"]) : Ini1 X s_InvalidName___init__ "InvalidName.__init__" "value" C := by
  obtain ⟨⟨_, _, B, n1, n2, bm, _, _, o, _, _, _⟩, no⟩ := T
  refine fun fI fd F => ⟨F.ok sc_InvalidNameD_initD (fun vs H Q E h => ?_) (fun cdv A outer s H vs Q E hr h => ?_), fun s me u => ?_, fun s me u => ?_⟩
  · obtain ⟨_, _, rfl, _⟩ := h; rfl
  · obtain ⟨a, v, rfl, ha, k⟩ := h
    exact ⟨_, PSs.nox (pss_one (ps_put (pv 0) (pv 1))), _, rfl, _, rfl, a, _, rfl, o, no _ (by simp), .inl ⟨ha, k⟩⟩
  · obtain ⟨oc, od, kV, doc, pm, an, cdv, ct, osl, rfl, lk, hcd⟩ := F.ex; exact BindsTo.of_looks fun M => .of_pure rfl
  · obtain ⟨oc, od, kV, doc, pm, an, cdv, ct, osl, rfl, lk, hcd⟩ := F.ex; exact BindsTo.of_looks fun M => .of_pure rfl
theorem ini_InvalidNumber (T : EI X.K X.mg "InvalidNumber" C s_InvalidNumber___init__ "InvalidNumber.__init__" ["value"]) : Ini1 X s_InvalidNumber___init__ "InvalidNumber.__init__" "value" C := by
  obtain ⟨⟨_, _, B, n1, n2, bm, _, _, o, _, _, _⟩, no⟩ := T
  refine fun fI fd F => ⟨F.ok sc_InvalidNumberD_initD (fun vs H Q E h => ?_) (fun cdv A outer s H vs Q E hr h => ?_), fun s me u => ?_, fun s me u => ?_⟩
  · obtain ⟨_, _, rfl, _⟩ := h; rfl
  · obtain ⟨a, v, rfl, ha, k⟩ := h
    exact ⟨_, PSs.nox (pss_one (ps_put (pv 0) (pv 1))), _, rfl, _, rfl, a, _, rfl, o, no _ (by simp), .inl ⟨ha, k⟩⟩
  · obtain ⟨oc, od, kV, doc, pm, an, cdv, ct, osl, rfl, lk, hcd⟩ := F.ex; exact BindsTo.of_looks fun M => .of_pure rfl
  · obtain ⟨oc, od, kV, doc, pm, an, cdv, ct, osl, rfl, lk, hcd⟩ := F.ex; exact BindsTo.of_looks fun M => .of_pure rfl
theorem ini_InvalidKind (T : EI X.K X.mg "InvalidKind" C s_InvalidKind___init__ "InvalidKind.__init__" ["value"]) : Ini1 X s_InvalidKind___init__ "InvalidKind.__init__" "value" C := by
  obtain ⟨⟨_, _, B, n1, n2, bm, _, _, o, _, _, _⟩, no⟩ := T
  refine fun fI fd F => ⟨F.ok sc_InvalidKindD_initD (fun vs H Q E h => ?_) (fun cdv A outer s H vs Q E hr h => ?_), fun s me u => ?_, fun s me u => ?_⟩
  · obtain ⟨_, _, rfl, _⟩ := h; rfl
  · obtain ⟨a, v, rfl, ha, k⟩ := h
    exact ⟨_, PSs.nox (pss_one (ps_put (pv 0) (pv 1))), _, rfl, _, rfl, a, _, rfl, o, no _ (by simp), .inl ⟨ha, k⟩⟩
  · obtain ⟨oc, od, kV, doc, pm, an, cdv, ct, osl, rfl, lk, hcd⟩ := F.ex; exact BindsTo.of_looks fun M => .of_pure rfl
  · obtain ⟨oc, od, kV, doc, pm, an, cdv, ct, osl, rfl, lk, hcd⟩ := F.ex; exact BindsTo.of_looks fun M => .of_pure rfl
theorem ini_InvalidWord (T : EI X.K X.mg "InvalidWord" C s_InvalidWord___init__ "InvalidWord.__init__" ["value"]) : Ini1 X s_InvalidWord___init__ "InvalidWord.__init__" "value" C := by
  obtain ⟨⟨_, _, B, n1, n2, bm, _, _, o, _, _, _⟩, no⟩ := T
  refine fun fI fd F => ⟨F.ok sc_InvalidWordD_initD (fun vs H Q E h => ?_) (fun cdv A outer s H vs Q E hr h => ?_), fun s me u => ?_, fun s me u => ?_⟩
  · obtain ⟨_, _, rfl, _⟩ := h; rfl
  · obtain ⟨a, v, rfl, ha, k⟩ := h
    exact ⟨_, PSs.nox (pss_one (ps_put (pv 0) (pv 1))), _, rfl, _, rfl, a, _, rfl, o, no _ (by simp), .inl ⟨ha, k⟩⟩
  · obtain ⟨oc, od, kV, doc, pm, an, cdv, ct, osl, rfl, lk, hcd⟩ := F.ex; exact BindsTo.of_looks fun M => .of_pure rfl
  · obtain ⟨oc, od, kV, doc, pm, an, cdv, ct, osl, rfl, lk, hcd⟩ := F.ex; exact BindsTo.of_looks fun M => .of_pure rfl
theorem ini_InvalidCounts (T : EI X.K X.mg "InvalidCounts" C s_InvalidCounts___init__ "InvalidCounts.__init__" ["value"]) : Ini1 X s_InvalidCounts___init__ "InvalidCounts.__init__" "value" C := by
  obtain ⟨⟨_, _, B, n1, n2, bm, _, _, o, _, _, _⟩, no⟩ := T
  refine fun fI fd F => ⟨F.ok sc_InvalidCountsD_initD (fun vs H Q E h => ?_) (fun cdv A outer s H vs Q E hr h => ?_), fun s me u => ?_, fun s me u => ?_⟩
  · obtain ⟨_, _, rfl, _⟩ := h; rfl
  · obtain ⟨a, v, rfl, ha, k⟩ := h
    exact ⟨_, PSs.nox (pss_one (ps_put (pv 0) (pv 1))), _, rfl, _, rfl, a, _, rfl, o, no _ (by simp), .inl ⟨ha, k⟩⟩
  · obtain ⟨oc, od, kV, doc, pm, an, cdv, ct, osl, rfl, lk, hcd⟩ := F.ex; exact BindsTo.of_looks fun M => .of_pure rfl
  · obtain ⟨oc, od, kV, doc, pm, an, cdv, ct, osl, rfl, lk, hcd⟩ := F.ex; exact BindsTo.of_looks fun M => .of_pure rfl
theorem ini_InvalidSection (T : EI X.K X.mg "InvalidSection" C s_InvalidSection___init__ "InvalidSection.__init__" ["value"]) : Ini1 X s_InvalidSection___init__ "InvalidSection.__init__" "value" C := by
  obtain ⟨⟨_, _, B, n1, n2, bm, _, _, o, _, _, _⟩, no⟩ := T
  refine fun fI fd F => ⟨F.ok sc_InvalidSectionD_initD (fun vs H Q E h => ?_) (fun cdv A outer s H vs Q E hr h => ?_), fun s me u => ?_, fun s me u => ?_⟩
  · obtain ⟨_, _, rfl, _⟩ := h; rfl
  · obtain ⟨a, v, rfl, ha, k⟩ := h
    exact ⟨_, PSs.nox (pss_one (ps_put (pv 0) (pv 1))), _, rfl, _, rfl, a, _, rfl, o, no _ (by simp), .inl ⟨ha, k⟩⟩
  · obtain ⟨oc, od, kV, doc, pm, an, cdv, ct, osl, rfl, lk, hcd⟩ := F.ex; exact BindsTo.of_looks fun M => .of_pure rfl
  · obtain ⟨oc, od, kV, doc, pm, an, cdv, ct, osl, rfl, lk, hcd⟩ := F.ex; exact BindsTo.of_looks fun M => .of_pure rfl
theorem ini_InvalidEdge (T : EI X.K X.mg "InvalidEdge" C s_InvalidEdge___init__ "InvalidEdge.__init__" ["value"]) : Ini1 X s_InvalidEdge___init__ "InvalidEdge.__init__" "value" C := by
  obtain ⟨⟨_, _, B, n1, n2, bm, _, _, o, _, _, _⟩, no⟩ := T
  refine fun fI fd F => ⟨F.ok sc_InvalidEdgeD_initD (fun vs H Q E h => ?_) (fun cdv A outer s H vs Q E hr h => ?_), fun s me u => ?_, fun s me u => ?_⟩
  · obtain ⟨_, _, rfl, _⟩ := h; rfl
  · obtain ⟨a, v, rfl, ha, k⟩ := h
    exact ⟨_, PSs.nox (pss_one (ps_put (pv 0) (pv 1))), _, rfl, _, rfl, a, _, rfl, o, no _ (by simp), .inl ⟨ha, k⟩⟩
  · obtain ⟨oc, od, kV, doc, pm, an, cdv, ct, osl, rfl, lk, hcd⟩ := F.ex; exact BindsTo.of_looks fun M => .of_pure rfl
  · obtain ⟨oc, od, kV, doc, pm, an, cdv, ct, osl, rfl, lk, hcd⟩ := F.ex; exact BindsTo.of_looks fun M => .of_pure rfl
theorem ini_InvalidWay (T : EI X.K X.mg "InvalidWay" C s_InvalidWay___init__ "InvalidWay.__init__" ["value"]) : Ini1 X s_InvalidWay___init__ "InvalidWay.__init__" "value" C := by
  obtain ⟨⟨_, _, B, n1, n2, bm, _, _, o, _, _, _⟩, no⟩ := T
  refine fun fI fd F => ⟨F.ok sc_InvalidWayD_initD (fun vs H Q E h => ?_) (fun cdv A outer s H vs Q E hr h => ?_), fun s me u => ?_, fun s me u => ?_⟩
  · obtain ⟨_, _, rfl, _⟩ := h; rfl
  · obtain ⟨a, v, rfl, ha, k⟩ := h
    exact ⟨_, PSs.nox (pss_one (ps_put (pv 0) (pv 1))), _, rfl, _, rfl, a, _, rfl, o, no _ (by simp), .inl ⟨ha, k⟩⟩
  · obtain ⟨oc, od, kV, doc, pm, an, cdv, ct, osl, rfl, lk, hcd⟩ := F.ex; exact BindsTo.of_looks fun M => .of_pure rfl
  · obtain ⟨oc, od, kV, doc, pm, an, cdv, ct, osl, rfl, lk, hcd⟩ := F.ex; exact BindsTo.of_looks fun M => .of_pure rfl
theorem ini_InvalidSketch (T : EI X.K X.mg "InvalidSketch" C s_InvalidSketch___init__ "InvalidSketch.__init__" ["value"]) : Ini1 X s_InvalidSketch___init__ "InvalidSketch.__init__" "value" C := by
  obtain ⟨⟨_, _, B, n1, n2, bm, _, _, o, _, _, _⟩, no⟩ := T
  refine fun fI fd F => ⟨F.ok sc_InvalidSketchD_initD (fun vs H Q E h => ?_) (fun cdv A outer s H vs Q E hr h => ?_), fun s me u => ?_, fun s me u => ?_⟩
  · obtain ⟨_, _, rfl, _⟩ := h; rfl
  · obtain ⟨a, v, rfl, ha, k⟩ := h
    exact ⟨_, PSs.nox (pss_one (ps_put (pv 0) (pv 1))), _, rfl, _, rfl, a, _, rfl, o, no _ (by simp), .inl ⟨ha, k⟩⟩
  · obtain ⟨oc, od, kV, doc, pm, an, cdv, ct, osl, rfl, lk, hcd⟩ := F.ex; exact BindsTo.of_looks fun M => .of_pure rfl
  · obtain ⟨oc, od, kV, doc, pm, an, cdv, ct, osl, rfl, lk, hcd⟩ := F.ex; exact BindsTo.of_looks fun M => .of_pure rfl
theorem ini_InvalidPattern (T : EI X.K X.mg "InvalidPattern" C s_InvalidPattern___init__ "InvalidPattern.__init__" ["value"]) : Ini1 X s_InvalidPattern___init__ "InvalidPattern.__init__" "value" C := by
  obtain ⟨⟨_, _, B, n1, n2, bm, _, _, o, _, _, _⟩, no⟩ := T
  refine fun fI fd F => ⟨F.ok sc_InvalidPatternD_initD (fun vs H Q E h => ?_) (fun cdv A outer s H vs Q E hr h => ?_), fun s me u => ?_, fun s me u => ?_⟩
  · obtain ⟨_, _, rfl, _⟩ := h; rfl
  · obtain ⟨a, v, rfl, ha, k⟩ := h
    exact ⟨_, PSs.nox (pss_one (ps_put (pv 0) (pv 1))), _, rfl, _, rfl, a, _, rfl, o, no _ (by simp), .inl ⟨ha, k⟩⟩
  · obtain ⟨oc, od, kV, doc, pm, an, cdv, ct, osl, rfl, lk, hcd⟩ := F.ex; exact BindsTo.of_looks fun M => .of_pure rfl
  · obtain ⟨oc, od, kV, doc, pm, an, cdv, ct, osl, rfl, lk, hcd⟩ := F.ex; exact BindsTo.of_looks fun M => .of_pure rfl
theorem ini_InvalidForm (T : EI X.K X.mg "InvalidForm" C s_InvalidForm___init__ "InvalidForm.__init__" ["value"]) : Ini1 X s_InvalidForm___init__ "InvalidForm.__init__" "value" C := by
  obtain ⟨⟨_, _, B, n1, n2, bm, _, _, o, _, _, _⟩, no⟩ := T
  refine fun fI fd F => ⟨F.ok sc_InvalidFormD_initD (fun vs H Q E h => ?_) (fun cdv A outer s H vs Q E hr h => ?_), fun s me u => ?_, fun s me u => ?_⟩
  · obtain ⟨_, _, rfl, _⟩ := h; rfl
  · obtain ⟨a, v, rfl, ha, k⟩ := h
    exact ⟨_, PSs.nox (pss_one (ps_put (pv 0) (pv 1))), _, rfl, _, rfl, a, _, rfl, o, no _ (by simp), .inl ⟨ha, k⟩⟩
  · obtain ⟨oc, od, kV, doc, pm, an, cdv, ct, osl, rfl, lk, hcd⟩ := F.ex; exact BindsTo.of_looks fun M => .of_pure rfl
  · obtain ⟨oc, od, kV, doc, pm, an, cdv, ct, osl, rfl, lk, hcd⟩ := F.ex; exact BindsTo.of_looks fun M => .of_pure rfl
theorem ini_InvalidPoint (T : EI X.K X.mg "InvalidPoint" C s_InvalidPoint___init__ "InvalidPoint.__init__" ["value"]) : Ini1 X s_InvalidPoint___init__ "InvalidPoint.__init__" "value" C := by
  obtain ⟨⟨_, _, B, n1, n2, bm, _, _, o, _, _, _⟩, no⟩ := T
  refine fun fI fd F => ⟨F.ok sc_InvalidPointD_initD (fun vs H Q E h => ?_) (fun cdv A outer s H vs Q E hr h => ?_), fun s me u => ?_, fun s me u => ?_⟩
  · obtain ⟨_, _, rfl, _⟩ := h; rfl
  · obtain ⟨a, v, rfl, ha, k⟩ := h
    exact ⟨_, PSs.nox (pss_one (ps_put (pv 0) (pv 1))), _, rfl, _, rfl, a, _, rfl, o, no _ (by simp), .inl ⟨ha, k⟩⟩
  · obtain ⟨oc, od, kV, doc, pm, an, cdv, ct, osl, rfl, lk, hcd⟩ := F.ex; exact BindsTo.of_looks fun M => .of_pure rfl
  · obtain ⟨oc, od, kV, doc, pm, an, cdv, ct, osl, rfl, lk, hcd⟩ := F.ex; exact BindsTo.of_looks fun M => .of_pure rfl
theorem ini_InvalidFamily (T : EI X.K X.mg "InvalidFamily" C s_InvalidFamily___init__ "InvalidFamily.__init__" ["value"]) : Ini1 X s_InvalidFamily___init__ "InvalidFamily.__init__" "value" C := by
  obtain ⟨⟨_, _, B, n1, n2, bm, _, _, o, _, _, _⟩, no⟩ := T
  refine fun fI fd F => ⟨F.ok sc_InvalidFamilyD_initD (fun vs H Q E h => ?_) (fun cdv A outer s H vs Q E hr h => ?_), fun s me u => ?_, fun s me u => ?_⟩
  · obtain ⟨_, _, rfl, _⟩ := h; rfl
  · obtain ⟨a, v, rfl, ha, k⟩ := h
    exact ⟨_, PSs.nox (pss_one (ps_put (pv 0) (pv 1))), _, rfl, _, rfl, a, _, rfl, o, no _ (by simp), .inl ⟨ha, k⟩⟩
  · obtain ⟨oc, od, kV, doc, pm, an, cdv, ct, osl, rfl, lk, hcd⟩ := F.ex; exact BindsTo.of_looks fun M => .of_pure rfl
  · obtain ⟨oc, od, kV, doc, pm, an, cdv, ct, osl, rfl, lk, hcd⟩ := F.ex; exact BindsTo.of_looks fun M => .of_pure rfl
theorem ini_InvalidCommand (T : EI X.K X.mg "InvalidCommand" C s_InvalidCommand___init__ "InvalidCommand.__init__" ["value"]) : Ini1 X s_InvalidCommand___init__ "InvalidCommand.__init__" "value" C := by
  obtain ⟨⟨_, _, B, n1, n2, bm, _, _, o, _, _, _⟩, no⟩ := T
  refine fun fI fd F => ⟨F.ok sc_InvalidCommandD_initD (fun vs H Q E h => ?_) (fun cdv A outer s H vs Q E hr h => ?_), fun s me u => ?_, fun s me u => ?_⟩
  · obtain ⟨_, _, rfl, _⟩ := h; rfl
  · obtain ⟨a, v, rfl, ha, k⟩ := h
    exact ⟨_, PSs.nox (pss_one (ps_put (pv 0) (pv 1))), _, rfl, _, rfl, a, _, rfl, o, no _ (by simp), .inl ⟨ha, k⟩⟩
  · obtain ⟨oc, od, kV, doc, pm, an, cdv, ct, osl, rfl, lk, hcd⟩ := F.ex; exact BindsTo.of_looks fun M => .of_pure rfl
  · obtain ⟨oc, od, kV, doc, pm, an, cdv, ct, osl, rfl, lk, hcd⟩ := F.ex; exact BindsTo.of_looks fun M => .of_pure rfl
theorem ini_InvalidParts (T : EI X.K X.mg "InvalidParts" C s_InvalidParts___init__ "InvalidParts.__init__" ["position"]) : Ini1 X s_InvalidParts___init__ "InvalidParts.__init__" "position" C := by
  obtain ⟨⟨_, _, B, n1, n2, bm, _, _, o, _, _, _⟩, no⟩ := T
  refine fun fI fd F => ⟨F.ok sc_InvalidPartsD_initD (fun vs H Q E h => ?_) (fun cdv A outer s H vs Q E hr h => ?_), fun s me u => ?_, fun s me u => ?_⟩
  · obtain ⟨_, _, rfl, _⟩ := h; rfl
  · obtain ⟨a, v, rfl, ha, k⟩ := h
    exact ⟨_, PSs.nox (pss_one (ps_put (pv 0) (pv 1))), _, rfl, _, rfl, a, _, rfl, o, no _ (by simp), .inl ⟨ha, k⟩⟩
  · obtain ⟨oc, od, kV, doc, pm, an, cdv, ct, osl, rfl, lk, hcd⟩ := F.ex; exact BindsTo.of_looks fun M => .of_pure rfl
  · obtain ⟨oc, od, kV, doc, pm, an, cdv, ct, osl, rfl, lk, hcd⟩ := F.ex; exact BindsTo.of_looks fun M => .of_pure rfl
theorem ini_InvalidTexts (T : EI X.K X.mg "InvalidTexts" C s_InvalidTexts___init__ "InvalidTexts.__init__" ["position"]) : Ini1 X s_InvalidTexts___init__ "InvalidTexts.__init__" "position" C := by
  obtain ⟨⟨_, _, B, n1, n2, bm, _, _, o, _, _, _⟩, no⟩ := T
  refine fun fI fd F => ⟨F.ok sc_InvalidTextsD_initD (fun vs H Q E h => ?_) (fun cdv A outer s H vs Q E hr h => ?_), fun s me u => ?_, fun s me u => ?_⟩
  · obtain ⟨_, _, rfl, _⟩ := h; rfl
  · obtain ⟨a, v, rfl, ha, k⟩ := h
    exact ⟨_, PSs.nox (pss_one (ps_put (pv 0) (pv 1))), _, rfl, _, rfl, a, _, rfl, o, no _ (by simp), .inl ⟨ha, k⟩⟩
  · obtain ⟨oc, od, kV, doc, pm, an, cdv, ct, osl, rfl, lk, hcd⟩ := F.ex; exact BindsTo.of_looks fun M => .of_pure rfl
  · obtain ⟨oc, od, kV, doc, pm, an, cdv, ct, osl, rfl, lk, hcd⟩ := F.ex; exact BindsTo.of_looks fun M => .of_pure rfl
theorem ini_InvalidRows (T : EI X.K X.mg "InvalidRows" C s_InvalidRows___init__ "InvalidRows.__init__" ["position"]) : Ini1 X s_InvalidRows___init__ "InvalidRows.__init__" "position" C := by
  obtain ⟨⟨_, _, B, n1, n2, bm, _, _, o, _, _, _⟩, no⟩ := T
  refine fun fI fd F => ⟨F.ok sc_InvalidRowsD_initD (fun vs H Q E h => ?_) (fun cdv A outer s H vs Q E hr h => ?_), fun s me u => ?_, fun s me u => ?_⟩
  · obtain ⟨_, _, rfl, _⟩ := h; rfl
  · obtain ⟨a, v, rfl, ha, k⟩ := h
    exact ⟨_, PSs.nox (pss_one (ps_put (pv 0) (pv 1))), _, rfl, _, rfl, a, _, rfl, o, no _ (by simp), .inl ⟨ha, k⟩⟩
  · obtain ⟨oc, od, kV, doc, pm, an, cdv, ct, osl, rfl, lk, hcd⟩ := F.ex; exact BindsTo.of_looks fun M => .of_pure rfl
  · obtain ⟨oc, od, kV, doc, pm, an, cdv, ct, osl, rfl, lk, hcd⟩ := F.ex; exact BindsTo.of_looks fun M => .of_pure rfl
theorem ini_InvalidCastOn (T : EI X.K X.mg "InvalidCastOn" C s_InvalidCastOn___init__ "InvalidCastOn.__init__" ["position"]) : Ini1 X s_InvalidCastOn___init__ "InvalidCastOn.__init__" "position" C := by
  obtain ⟨⟨_, _, B, n1, n2, bm, _, _, o, _, _, _⟩, no⟩ := T
  refine fun fI fd F => ⟨F.ok sc_InvalidCastOnD_initD (fun vs H Q E h => ?_) (fun cdv A outer s H vs Q E hr h => ?_), fun s me u => ?_, fun s me u => ?_⟩
  · obtain ⟨_, _, rfl, _⟩ := h; rfl
  · obtain ⟨a, v, rfl, ha, k⟩ := h
    exact ⟨_, PSs.nox (pss_one (ps_put (pv 0) (pv 1))), _, rfl, _, rfl, a, _, rfl, o, no _ (by simp), .inl ⟨ha, k⟩⟩
  · obtain ⟨oc, od, kV, doc, pm, an, cdv, ct, osl, rfl, lk, hcd⟩ := F.ex; exact BindsTo.of_looks fun M => .of_pure rfl
  · obtain ⟨oc, od, kV, doc, pm, an, cdv, ct, osl, rfl, lk, hcd⟩ := F.ex; exact BindsTo.of_looks fun M => .of_pure rfl
theorem ini_InvalidSteps (T : EI X.K X.mg "InvalidSteps" C s_InvalidSteps___init__ "InvalidSteps.__init__" ["position"]) : Ini1 X s_InvalidSteps___init__ "InvalidSteps.__init__" "position" C := by
  obtain ⟨⟨_, _, B, n1, n2, bm, _, _, o, _, _, _⟩, no⟩ := T
  refine fun fI fd F => ⟨F.ok sc_InvalidStepsD_initD (fun vs H Q E h => ?_) (fun cdv A outer s H vs Q E hr h => ?_), fun s me u => ?_, fun s me u => ?_⟩
  · obtain ⟨_, _, rfl, _⟩ := h; rfl
  · obtain ⟨a, v, rfl, ha, k⟩ := h
    exact ⟨_, PSs.nox (pss_one (ps_put (pv 0) (pv 1))), _, rfl, _, rfl, a, _, rfl, o, no _ (by simp), .inl ⟨ha, k⟩⟩
  · obtain ⟨oc, od, kV, doc, pm, an, cdv, ct, osl, rfl, lk, hcd⟩ := F.ex; exact BindsTo.of_looks fun M => .of_pure rfl
  · obtain ⟨oc, od, kV, doc, pm, an, cdv, ct, osl, rfl, lk, hcd⟩ := F.ex; exact BindsTo.of_looks fun M => .of_pure rfl
theorem ini_InvalidBlock (T : EI X.K X.mg "InvalidBlock" C s_InvalidBlock___init__ "InvalidBlock.__init__" ["position"]) : Ini1 X s_InvalidBlock___init__ "InvalidBlock.__init__" "position" C := by
  obtain ⟨⟨_, _, B, n1, n2, bm, _, _, o, _, _, _⟩, no⟩ := T
  refine fun fI fd F => ⟨F.ok sc_InvalidBlockD_initD (fun vs H Q E h => ?_) (fun cdv A outer s H vs Q E hr h => ?_), fun s me u => ?_, fun s me u => ?_⟩
  · obtain ⟨_, _, rfl, _⟩ := h; rfl
  · obtain ⟨a, v, rfl, ha, k⟩ := h
    exact ⟨_, PSs.nox (pss_one (ps_put (pv 0) (pv 1))), _, rfl, _, rfl, a, _, rfl, o, no _ (by simp), .inl ⟨ha, k⟩⟩
  · obtain ⟨oc, od, kV, doc, pm, an, cdv, ct, osl, rfl, lk, hcd⟩ := F.ex; exact BindsTo.of_looks fun M => .of_pure rfl
  · obtain ⟨oc, od, kV, doc, pm, an, cdv, ct, osl, rfl, lk, hcd⟩ := F.ex; exact BindsTo.of_looks fun M => .of_pure rfl
theorem ini_InvalidStretches (T : EI X.K X.mg "InvalidStretches" C s_InvalidStretches___init__ "InvalidStretches.__init__" ["position"]) : Ini1 X s_InvalidStretches___init__ "InvalidStretches.__init__" "position" C := by
  obtain ⟨⟨_, _, B, n1, n2, bm, _, _, o, _, _, _⟩, no⟩ := T
  refine fun fI fd F => ⟨F.ok sc_InvalidStretchesD_initD (fun vs H Q E h => ?_) (fun cdv A outer s H vs Q E hr h => ?_), fun s me u => ?_, fun s me u => ?_⟩
  · obtain ⟨_, _, rfl, _⟩ := h; rfl
  · obtain ⟨a, v, rfl, ha, k⟩ := h
    exact ⟨_, PSs.nox (pss_one (ps_put (pv 0) (pv 1))), _, rfl, _, rfl, a, _, rfl, o, no _ (by simp), .inl ⟨ha, k⟩⟩
  · obtain ⟨oc, od, kV, doc, pm, an, cdv, ct, osl, rfl, lk, hcd⟩ := F.ex; exact BindsTo.of_looks fun M => .of_pure rfl
  · obtain ⟨oc, od, kV, doc, pm, an, cdv, ct, osl, rfl, lk, hcd⟩ := F.ex; exact BindsTo.of_looks fun M => .of_pure rfl
theorem ini_InvalidSchedules (T : EI X.K X.mg "InvalidSchedules" C s_InvalidSchedules___init__ "InvalidSchedules.__init__" ["position"]) : Ini1 X s_InvalidSchedules___init__ "InvalidSchedules.__init__" "position" C := by
  obtain ⟨⟨_, _, B, n1, n2, bm, _, _, o, _, _, _⟩, no⟩ := T
  refine fun fI fd F => ⟨F.ok sc_InvalidSchedulesD_initD (fun vs H Q E h => ?_) (fun cdv A outer s H vs Q E hr h => ?_), fun s me u => ?_, fun s me u => ?_⟩
  · obtain ⟨_, _, rfl, _⟩ := h; rfl
  · obtain ⟨a, v, rfl, ha, k⟩ := h
    exact ⟨_, PSs.nox (pss_one (ps_put (pv 0) (pv 1))), _, rfl, _, rfl, a, _, rfl, o, no _ (by simp), .inl ⟨ha, k⟩⟩
  · obtain ⟨oc, od, kV, doc, pm, an, cdv, ct, osl, rfl, lk, hcd⟩ := F.ex; exact BindsTo.of_looks fun M => .of_pure rfl
  · obtain ⟨oc, od, kV, doc, pm, an, cdv, ct, osl, rfl, lk, hcd⟩ := F.ex; exact BindsTo.of_looks fun M => .of_pure rfl
theorem ini_InvalidCell (T : EI X.K X.mg "InvalidCell" C s_InvalidCell___init__ "InvalidCell.__init__" ["position"]) : Ini1 X s_InvalidCell___init__ "InvalidCell.__init__" "position" C := by
  obtain ⟨⟨_, _, B, n1, n2, bm, _, _, o, _, _, _⟩, no⟩ := T
  refine fun fI fd F => ⟨F.ok sc_InvalidCellD_initD (fun vs H Q E h => ?_) (fun cdv A outer s H vs Q E hr h => ?_), fun s me u => ?_, fun s me u => ?_⟩
  · obtain ⟨_, _, rfl, _⟩ := h; rfl
  · obtain ⟨a, v, rfl, ha, k⟩ := h
    exact ⟨_, PSs.nox (pss_one (ps_put (pv 0) (pv 1))), _, rfl, _, rfl, a, _, rfl, o, no _ (by simp), .inl ⟨ha, k⟩⟩
  · obtain ⟨oc, od, kV, doc, pm, an, cdv, ct, osl, rfl, lk, hcd⟩ := F.ex; exact BindsTo.of_looks fun M => .of_pure rfl
  · obtain ⟨oc, od, kV, doc, pm, an, cdv, ct, osl, rfl, lk, hcd⟩ := F.ex; exact BindsTo.of_looks fun M => .of_pure rfl
theorem ini_BelowZero (T : EI X.K X.mg "BelowZero" C s_BelowZero___init__ "BelowZero.__init__" ["position"]) : Ini1 X s_BelowZero___init__ "BelowZero.__init__" "position" C := by
  obtain ⟨⟨_, _, B, n1, n2, bm, _, _, o, _, _, _⟩, no⟩ := T
  refine fun fI fd F => ⟨F.ok sc_BelowZeroD_initD (fun vs H Q E h => ?_) (fun cdv A outer s H vs Q E hr h => ?_), fun s me u => ?_, fun s me u => ?_⟩
  · obtain ⟨_, _, rfl, _⟩ := h; rfl
  · obtain ⟨a, v, rfl, ha, k⟩ := h
    exact ⟨_, PSs.nox (pss_one (ps_put (pv 0) (pv 1))), _, rfl, _, rfl, a, _, rfl, o, no _ (by simp), .inl ⟨ha, k⟩⟩
  · obtain ⟨oc, od, kV, doc, pm, an, cdv, ct, osl, rfl, lk, hcd⟩ := F.ex; exact BindsTo.of_looks fun M => .of_pure rfl
  · obtain ⟨oc, od, kV, doc, pm, an, cdv, ct, osl, rfl, lk, hcd⟩ := F.ex; exact BindsTo.of_looks fun M => .of_pure rfl
theorem ini_UnknownKind (T : EI X.K X.mg "UnknownKind" C s_UnknownKind___init__ "UnknownKind.__init__" ["name"]) : Ini1 X s_UnknownKind___init__ "UnknownKind.__init__" "name" C := by
  obtain ⟨⟨_, _, B, n1, n2, bm, _, _, o, _, _, _⟩, no⟩ := T
  refine fun fI fd F => ⟨F.ok sc_UnknownKindD_initD (fun vs H Q E h => ?_) (fun cdv A outer s H vs Q E hr h => ?_), fun s me u => ?_, fun s me u => ?_⟩
  · obtain ⟨_, _, rfl, _⟩ := h; rfl
  · obtain ⟨a, v, rfl, ha, k⟩ := h
    exact ⟨_, PSs.nox (pss_one (ps_put (pv 0) (pv 1))), _, rfl, _, rfl, a, _, rfl, o, no _ (by simp), .inl ⟨ha, k⟩⟩
  · obtain ⟨oc, od, kV, doc, pm, an, cdv, ct, osl, rfl, lk, hcd⟩ := F.ex; exact BindsTo.of_looks fun M => .of_pure rfl
  · obtain ⟨oc, od, kV, doc, pm, an, cdv, ct, osl, rfl, lk, hcd⟩ := F.ex; exact BindsTo.of_looks fun M => .of_pure rfl
theorem ini_NoBack (T : EI X.K X.mg "NoBack" C s_NoBack___init__ "NoBack.__init__" ["name"]) : Ini1 X s_NoBack___init__ "NoBack.__init__" "name" C := by
  obtain ⟨⟨_, _, B, n1, n2, bm, _, _, o, _, _, _⟩, no⟩ := T
  refine fun fI fd F => ⟨F.ok sc_NoBackD_initD (fun vs H Q E h => ?_) (fun cdv A outer s H vs Q E hr h => ?_), fun s me u => ?_, fun s me u => ?_⟩
  · obtain ⟨_, _, rfl, _⟩ := h; rfl
  · obtain ⟨a, v, rfl, ha, k⟩ := h
    exact ⟨_, PSs.nox (pss_one (ps_put (pv 0) (pv 1))), _, rfl, _, rfl, a, _, rfl, o, no _ (by simp), .inl ⟨ha, k⟩⟩
  · obtain ⟨oc, od, kV, doc, pm, an, cdv, ct, osl, rfl, lk, hcd⟩ := F.ex; exact BindsTo.of_looks fun M => .of_pure rfl
  · obtain ⟨oc, od, kV, doc, pm, an, cdv, ct, osl, rfl, lk, hcd⟩ := F.ex; exact BindsTo.of_looks fun M => .of_pure rfl
theorem ini_NoMirror (T : EI X.K X.mg "NoMirror" C s_NoMirror___init__ "NoMirror.__init__" ["name"]) : Ini1 X s_NoMirror___init__ "NoMirror.__init__" "name" C := by
  obtain ⟨⟨_, _, B, n1, n2, bm, _, _, o, _, _, _⟩, no⟩ := T
  refine fun fI fd F => ⟨F.ok sc_NoMirrorD_initD (fun vs H Q E h => ?_) (fun cdv A outer s H vs Q E hr h => ?_), fun s me u => ?_, fun s me u => ?_⟩
  · obtain ⟨_, _, rfl, _⟩ := h; rfl
  · obtain ⟨a, v, rfl, ha, k⟩ := h
    exact ⟨_, PSs.nox (pss_one (ps_put (pv 0) (pv 1))), _, rfl, _, rfl, a, _, rfl, o, no _ (by simp), .inl ⟨ha, k⟩⟩
  · obtain ⟨oc, od, kV, doc, pm, an, cdv, ct, osl, rfl, lk, hcd⟩ := F.ex; exact BindsTo.of_looks fun M => .of_pure rfl
  · obtain ⟨oc, od, kV, doc, pm, an, cdv, ct, osl, rfl, lk, hcd⟩ := F.ex; exact BindsTo.of_looks fun M => .of_pure rfl
theorem ini_UnknownPattern (T : EI X.K X.mg "UnknownPattern" C s_UnknownPattern___init__ "UnknownPattern.__init__" ["name"]) : Ini1 X s_UnknownPattern___init__ "UnknownPattern.__init__" "name" C := by
  obtain ⟨⟨_, _, B, n1, n2, bm, _, _, o, _, _, _⟩, no⟩ := T
  refine fun fI fd F => ⟨F.ok sc_UnknownPatternD_initD (fun vs H Q E h => ?_) (fun cdv A outer s H vs Q E hr h => ?_), fun s me u => ?_, fun s me u => ?_⟩
  · obtain ⟨_, _, rfl, _⟩ := h; rfl
  · obtain ⟨a, v, rfl, ha, k⟩ := h
    exact ⟨_, PSs.nox (pss_one (ps_put (pv 0) (pv 1))), _, rfl, _, rfl, a, _, rfl, o, no _ (by simp), .inl ⟨ha, k⟩⟩
  · obtain ⟨oc, od, kV, doc, pm, an, cdv, ct, osl, rfl, lk, hcd⟩ := F.ex; exact BindsTo.of_looks fun M => .of_pure rfl
  · obtain ⟨oc, od, kV, doc, pm, an, cdv, ct, osl, rfl, lk, hcd⟩ := F.ex; exact BindsTo.of_looks fun M => .of_pure rfl
theorem ini_NoRow (T : EI X.K X.mg "NoRow" C s_NoRow___init__ "NoRow.__init__" ["number"]) : Ini1 X s_NoRow___init__ "NoRow.__init__" "number" C := by
  obtain ⟨⟨_, _, B, n1, n2, bm, _, _, o, _, _, _⟩, no⟩ := T
  refine fun fI fd F => ⟨F.ok sc_NoRowD_initD (fun vs H Q E h => ?_) (fun cdv A outer s H vs Q E hr h => ?_), fun s me u => ?_, fun s me u => ?_⟩
  · obtain ⟨_, _, rfl, _⟩ := h; rfl
  · obtain ⟨a, v, rfl, ha, k⟩ := h
    exact ⟨_, PSs.nox (pss_one (ps_put (pv 0) (pv 1))), _, rfl, _, rfl, a, _, rfl, o, no _ (by simp), .inl ⟨ha, k⟩⟩
  · obtain ⟨oc, od, kV, doc, pm, an, cdv, ct, osl, rfl, lk, hcd⟩ := F.ex; exact BindsTo.of_looks fun M => .of_pure rfl
  · obtain ⟨oc, od, kV, doc, pm, an, cdv, ct, osl, rfl, lk, hcd⟩ := F.ex; exact BindsTo.of_looks fun M => .of_pure rfl
theorem ini_InvalidText (T : EI X.K X.mg "InvalidText" C s_InvalidText___init__ "InvalidText.__init__" ["problem"]) : Ini1 X s_InvalidText___init__ "InvalidText.__init__" "problem" C := by
  obtain ⟨⟨_, _, B, n1, n2, bm, _, _, o, _, _, _⟩, no⟩ := T
  refine fun fI fd F => ⟨F.ok sc_InvalidTextD_initD (fun vs H Q E h => ?_) (fun cdv A outer s H vs Q E hr h => ?_), fun s me u => ?_, fun s me u => ?_⟩
  · obtain ⟨_, _, rfl, _⟩ := h; rfl
  · obtain ⟨a, v, rfl, ha, k⟩ := h
    exact ⟨_, PSs.nox (pss_one (ps_put (pv 0) (pv 1))), _, rfl, _, rfl, a, _, rfl, o, no _ (by simp), .inl ⟨ha, k⟩⟩
  · obtain ⟨oc, od, kV, doc, pm, an, cdv, ct, osl, rfl, lk, hcd⟩ := F.ex; exact BindsTo.of_looks fun M => .of_pure rfl
  · obtain ⟨oc, od, kV, doc, pm, an, cdv, ct, osl, rfl, lk, hcd⟩ := F.ex; exact BindsTo.of_looks fun M => .of_pure rfl
theorem ini_InvalidLine (T : EI X.K X.mg "InvalidLine" C s_InvalidLine___init__ "InvalidLine.__init__" ["line"]) : Ini1 X s_InvalidLine___init__ "InvalidLine.__init__" "line" C := by
  obtain ⟨⟨_, _, B, n1, n2, bm, _, _, o, _, _, _⟩, no⟩ := T
  refine fun fI fd F => ⟨F.ok sc_InvalidLineD_initD (fun vs H Q E h => ?_) (fun cdv A outer s H vs Q E hr h => ?_), fun s me u => ?_, fun s me u => ?_⟩
  · obtain ⟨_, _, rfl, _⟩ := h; rfl
  · obtain ⟨a, v, rfl, ha, k⟩ := h
    exact ⟨_, PSs.nox (pss_one (ps_put (pv 0) (pv 1))), _, rfl, _, rfl, a, _, rfl, o, no _ (by simp), .inl ⟨ha, k⟩⟩
  · obtain ⟨oc, od, kV, doc, pm, an, cdv, ct, osl, rfl, lk, hcd⟩ := F.ex; exact BindsTo.of_looks fun M => .of_pure rfl
  · obtain ⟨oc, od, kV, doc, pm, an, cdv, ct, osl, rfl, lk, hcd⟩ := F.ex; exact BindsTo.of_looks fun M => .of_pure rfl
theorem ini_NotThrough (T : EI X.K X.mg "NotThrough" C s_NotThrough___init__ "NotThrough.__init__" ["outcome"]) : Ini1 X s_NotThrough___init__ "NotThrough.__init__" "outcome" C := by
  obtain ⟨⟨_, _, B, n1, n2, bm, _, _, o, _, _, _⟩, no⟩ := T
  refine fun fI fd F => ⟨F.ok sc_NotThroughD_initD (fun vs H Q E h => ?_) (fun cdv A outer s H vs Q E hr h => ?_), fun s me u => ?_, fun s me u => ?_⟩
  · obtain ⟨_, _, rfl, _⟩ := h; rfl
  · obtain ⟨a, v, rfl, ha, k⟩ := h
    exact ⟨_, PSs.nox (pss_one (ps_put (pv 0) (pv 1))), _, rfl, _, rfl, a, _, rfl, o, no _ (by simp), .inl ⟨ha, k⟩⟩
  · obtain ⟨oc, od, kV, doc, pm, an, cdv, ct, osl, rfl, lk, hcd⟩ := F.ex; exact BindsTo.of_looks fun M => .of_pure rfl
  · obtain ⟨oc, od, kV, doc, pm, an, cdv, ct, osl, rfl, lk, hcd⟩ := F.ex; exact BindsTo.of_looks fun M => .of_pure rfl
theorem ini_InvalidBook (T : EI X.K X.mg "InvalidBook" C s_InvalidBook___init__ "InvalidBook.__init__" ["problem", "name"]) : Ini2 X s_InvalidBook___init__ "InvalidBook.__init__" "problem" "name" C := by
  obtain ⟨⟨_, _, B, n1, n2, bm, _, _, o, _, _, _⟩, no⟩ := T
  refine fun fI fd F => ⟨F.ok sc_InvalidBookD_initD (fun vs H Q E h => ?_) (fun cdv A outer s H vs Q E hr h => ?_), fun s me u v => ?_, fun s me u v => ?_⟩
  · obtain ⟨_, _, _, rfl, _⟩ := h; rfl
  · obtain ⟨a, v, u, rfl, ha, k⟩ := h
    refine ⟨_, PSs.nox (pss_cons (ps_put (B := B) (newId := n1) (initId := n2) (bmB := bm) (pv 0) (pv 1)) (pss_one (ps_put (B := B) (newId := n1) (initId := n2) (bmB := bm) (pv 0) (pv 2)))), _, rfl, _, rfl, a, _, rfl, o, no _ (by simp), .inl ⟨ha, fun d nd ne => ?_⟩⟩
    refine ⟨_, rfl, _, rfl, a, _, rfl, o, no _ (by simp), .inr ⟨d, _, upd_same, (upd_ne ne).trans upd_same, (by show 1 ≤ 900; decide), ?_⟩⟩
    have e := k d nd ne
    refine Eq.mp (congrArg (Q .non) ?_) e
    funext b
    by_cases z : b = d
    · subst z; rw [upd_ne ne, upd_same, upd_same]
    · by_cases y : b = a
      · subst y; rw [upd_same, upd_ne z, upd_same]
      · rw [upd_ne y, upd_ne z, upd_ne z, upd_ne y, upd_ne z]
  · obtain ⟨oc, od, kV, doc, pm, an, cdv, ct, osl, rfl, lk, hcd⟩ := F.ex; exact BindsTo.of_looks fun M => .of_pure rfl
  · obtain ⟨oc, od, kV, doc, pm, an, cdv, ct, osl, rfl, lk, hcd⟩ := F.ex; exact BindsTo.of_looks fun M => .of_pure rfl
theorem ini_NotFitting (T : EI X.K X.mg "NotFitting" C s_NotFitting___init__ "NotFitting.__init__" ["section", "loops"]) : Ini2 X s_NotFitting___init__ "NotFitting.__init__" "section" "loops" C := by
  obtain ⟨⟨_, _, B, n1, n2, bm, _, _, o, _, _, _⟩, no⟩ := T
  refine fun fI fd F => ⟨F.ok sc_NotFittingD_initD (fun vs H Q E h => ?_) (fun cdv A outer s H vs Q E hr h => ?_), fun s me u v => ?_, fun s me u v => ?_⟩
  · obtain ⟨_, _, _, rfl, _⟩ := h; rfl
  · obtain ⟨a, v, u, rfl, ha, k⟩ := h
    refine ⟨_, PSs.nox (pss_cons (ps_put (B := B) (newId := n1) (initId := n2) (bmB := bm) (pv 0) (pv 1)) (pss_one (ps_put (B := B) (newId := n1) (initId := n2) (bmB := bm) (pv 0) (pv 2)))), _, rfl, _, rfl, a, _, rfl, o, no _ (by simp), .inl ⟨ha, fun d nd ne => ?_⟩⟩
    refine ⟨_, rfl, _, rfl, a, _, rfl, o, no _ (by simp), .inr ⟨d, _, upd_same, (upd_ne ne).trans upd_same, (by show 1 ≤ 900; decide), ?_⟩⟩
    have e := k d nd ne
    refine Eq.mp (congrArg (Q .non) ?_) e
    funext b
    by_cases z : b = d
    · subst z; rw [upd_ne ne, upd_same, upd_same]
    · by_cases y : b = a
      · subst y; rw [upd_same, upd_ne z, upd_same]
      · rw [upd_ne y, upd_ne z, upd_ne z, upd_ne y, upd_ne z]
  · obtain ⟨oc, od, kV, doc, pm, an, cdv, ct, osl, rfl, lk, hcd⟩ := F.ex; exact BindsTo.of_looks fun M => .of_pure rfl
  · obtain ⟨oc, od, kV, doc, pm, an, cdv, ct, osl, rfl, lk, hcd⟩ := F.ex; exact BindsTo.of_looks fun M => .of_pure rfl
theorem ini_TooMany (T : EI X.K X.mg "TooMany" C s_TooMany___init__ "TooMany.__init__" ["what", "limit"]) : Ini2 X s_TooMany___init__ "TooMany.__init__" "what" "limit" C := by
  obtain ⟨⟨_, _, B, n1, n2, bm, _, _, o, _, _, _⟩, no⟩ := T
  refine fun fI fd F => ⟨F.ok sc_TooManyD_initD (fun vs H Q E h => ?_) (fun cdv A outer s H vs Q E hr h => ?_), fun s me u v => ?_, fun s me u v => ?_⟩
  · obtain ⟨_, _, _, rfl, _⟩ := h; rfl
  · obtain ⟨a, v, u, rfl, ha, k⟩ := h
    refine ⟨_, PSs.nox (pss_cons (ps_put (B := B) (newId := n1) (initId := n2) (bmB := bm) (pv 0) (pv 1)) (pss_one (ps_put (B := B) (newId := n1) (initId := n2) (bmB := bm) (pv 0) (pv 2)))), _, rfl, _, rfl, a, _, rfl, o, no _ (by simp), .inl ⟨ha, fun d nd ne => ?_⟩⟩
    refine ⟨_, rfl, _, rfl, a, _, rfl, o, no _ (by simp), .inr ⟨d, _, upd_same, (upd_ne ne).trans upd_same, (by show 1 ≤ 900; decide), ?_⟩⟩
    have e := k d nd ne
    refine Eq.mp (congrArg (Q .non) ?_) e
    funext b
    by_cases z : b = d
    · subst z; rw [upd_ne ne, upd_same, upd_same]
    · by_cases y : b = a
      · subst y; rw [upd_same, upd_ne z, upd_same]
      · rw [upd_ne y, upd_ne z, upd_ne z, upd_ne y, upd_ne z]
  · obtain ⟨oc, od, kV, doc, pm, an, cdv, ct, osl, rfl, lk, hcd⟩ := F.ex; exact BindsTo.of_looks fun M => .of_pure rfl
  · obtain ⟨oc, od, kV, doc, pm, an, cdv, ct, osl, rfl, lk, hcd⟩ := F.ex; exact BindsTo.of_looks fun M => .of_pure rfl
end
end N

set_option maxHeartbeats 4000000
namespace L2
open PySem PySem.Spec PyProof.Rows
theorem seq_set {te : TE} {i : Nat} {b : TS} {D : Ends} {σ : St} {H : Hp} (h : te σ H fun v H' => b D (σ.set i (some v)) H') : tSeq (tAsg te (gName i)) b D σ H := h
theorem ret_of {te : TE} {D : Ends} {σ : St} {H : Hp} (h : te σ H fun v H' => D.rt v H') : tRet te D σ H := h
theorem plen2 {α β : Type} {R : α → β → Prop} : ∀ {xs : List α} {ys : List β}, Paired R xs ys → xs.length = ys.length
  | _, _, .nil => rfl
  | _, _, .cons _ t => congrArg (· + 1) (plen2 t)
theorem line1000 {n : Nat} (h : n ≤ 1000) : n ≤ sizeLine := Nat.le_trans h (by decide)
/-- [C(..), ..] -/
theorem disp_mk {σ : St} {H : Hp} {ds : List Mk1} {es : List (Addr × List (Str × V))} {Q : VK} (hd : atAll σ ds = some es) (few : es.length ≤ 1000)
    (q : ∀ l ws H', Same H H' → H l = none → H' l = some (.lst ws) → ErrsV H' ws es → Q (.ref l) H') : tLst (tMks ds) σ H Q :=
  ⟨es, hd, fun vs H1 s1 p1 => ⟨line1000 (plen2 p1 ▸ few), fun l nl => q l vs _ (fun b o e => by rw [upd_ne (ne_of_none (s1 _ _ e) nl)]; exact s1 _ _ e) (s1.free nl) upd_same (p1.same fun b o e => by rw [upd_ne (ne_of_none e nl)]; exact e)⟩⟩
/-- made + [C(..), ..] -/
theorem cat_mk {σ : St} {H : Hp} {i : Nat} {l : Addr} {ws : List V} {ds : List Mk1} {es es2 : List (Addr × List (Str × V))} {Q : VK} (hl : slotV σ i = some (.ref l)) (at_ : H l = some (.lst ws)) (p : ErrsV H ws es) (hd : atAll σ ds = some es2) (few : es.length + es2.length ≤ 1000)
    (q : ∀ l' ws' H', Same H H' → H l' = none → H' l' = some (.lst ws') → ErrsV H' ws' (es ++ es2) → Q (.ref l') H') : tOp rCat (tVar i) (tLst (tMks ds)) σ H Q := by
  refine ⟨_, slot_at hl, ?_⟩
  refine disp_mk hd (by omega) fun l2 ws2 H2 s2 n2 e2 p2 => ?_
  refine ⟨l, l2, ws, ws2, rfl, rfl, s2 _ _ at_, e2, line1000 (by rw [plen2 p, plen2 p2]; exact few), fun l3 n3 => ?_⟩
  have s3 : Same H2 (upd H2 l3 (.lst (ws ++ ws2))) := fun b o e => by rw [upd_ne (ne_of_none e n3)]; exact e
  exact q l3 _ _ (s2.trans s3) (s2.free n3) upd_same (paired_app (ErrsV.same (p.same s2) s3) (p2.same s3))
/-- [isinstance(e, ..), ..] -/
theorem disp_is {K : PySem.W.Frag} {σ : St} {H : Hp} {i : Nat} {cvs : List Value} {a D : Addr} {fs : List (Str × V)} {bs : List Bool} {Q : VK} (ha : slotV σ i = some (.ref a)) (e : ErrAt H a D fs) (x : ExcC K D) (p : Paired (fun cv b => PySem.W.kitOne K (.ref D) cv = some b) cvs bs) (few : bs.length ≤ 1000)
    (q : ∀ l H', Same H H' → H l = none → H' l = some (.lst (bs.map V.bl)) → Q (.ref l) H') : tLst (tIss K i cvs) σ H Q :=
  ⟨a, D, fs, bs, ha, e, x, p, line1000 (by rw [List.length_map]; exact few), fun l nl => q l _ (fun b o e => by rw [upd_ne (ne_of_none e nl)]; exact e) nl upd_same⟩
theorem cat_is {K : PySem.W.Frag} {σ : St} {H : Hp} {i j : Nat} {cvs : List Value} {a D l : Addr} {fs : List (Str × V)} {bs cs : List Bool} {Q : VK} (hl : slotV σ j = some (.ref l)) (at_ : H l = some (.lst (cs.map V.bl))) (ha : slotV σ i = some (.ref a)) (e : ErrAt H a D fs) (x : ExcC K D)
    (p : Paired (fun cv b => PySem.W.kitOne K (.ref D) cv = some b) cvs bs) (few : cs.length + bs.length ≤ 1000) (q : ∀ l' H', Same H H' → H l' = none → H' l' = some (.lst ((cs ++ bs).map V.bl)) → Q (.ref l') H') : tOp rCat (tVar j) (tLst (tIss K i cvs)) σ H Q := by
  refine ⟨_, slot_at hl, disp_is ha e x p (by omega) fun l2 H2 s2 n2 e2 => ?_⟩
  refine ⟨l, l2, _, _, rfl, rfl, s2 _ _ at_, e2, line1000 (by simpa using few), fun l3 n3 => ?_⟩
  have s3 : Same H2 (upd H2 l3 (.lst (cs.map V.bl ++ bs.map V.bl))) := fun b o e => by rw [upd_ne (ne_of_none e n3)]; exact e
  exact q l3 _ (s2.trans s3) (s2.free n3) (by rw [upd_same, List.map_append])
end L2
namespace N
open PySem L2
structure Tx (K : PySem.W.Frag) (mg : Str → Option Value) (C S : Nat → Addr) : Prop where
  cl : Cl K C S
  e0 : EI K mg "InvalidName" (C 0) s_InvalidName___init__ "InvalidName.__init__" ["value"]
  e1 : EI K mg "InvalidNumber" (C 1) s_InvalidNumber___init__ "InvalidNumber.__init__" ["value"]
  e2 : EI K mg "InvalidKind" (C 2) s_InvalidKind___init__ "InvalidKind.__init__" ["value"]
  e3 : EI K mg "InvalidWord" (C 3) s_InvalidWord___init__ "InvalidWord.__init__" ["value"]
  e4 : EI K mg "InvalidCounts" (C 4) s_InvalidCounts___init__ "InvalidCounts.__init__" ["value"]
  e5 : EI K mg "InvalidSection" (C 5) s_InvalidSection___init__ "InvalidSection.__init__" ["value"]
  e6 : EI K mg "InvalidEdge" (C 6) s_InvalidEdge___init__ "InvalidEdge.__init__" ["value"]
  e7 : EI K mg "InvalidWay" (C 7) s_InvalidWay___init__ "InvalidWay.__init__" ["value"]
  e8 : EI K mg "InvalidSketch" (C 8) s_InvalidSketch___init__ "InvalidSketch.__init__" ["value"]
  e9 : EI K mg "InvalidPattern" (C 9) s_InvalidPattern___init__ "InvalidPattern.__init__" ["value"]
  e10 : EI K mg "InvalidForm" (C 10) s_InvalidForm___init__ "InvalidForm.__init__" ["value"]
  e11 : EI K mg "InvalidPoint" (C 11) s_InvalidPoint___init__ "InvalidPoint.__init__" ["value"]
  e12 : EI K mg "InvalidFamily" (C 12) s_InvalidFamily___init__ "InvalidFamily.__init__" ["value"]
  e13 : EI K mg "InvalidCommand" (C 13) s_InvalidCommand___init__ "InvalidCommand.__init__" ["value"]
  e14 : EI K mg "InvalidParts" (C 14) s_InvalidParts___init__ "InvalidParts.__init__" ["position"]
  e15 : EI K mg "InvalidTexts" (C 15) s_InvalidTexts___init__ "InvalidTexts.__init__" ["position"]
  e16 : EI K mg "InvalidRows" (C 16) s_InvalidRows___init__ "InvalidRows.__init__" ["position"]
  e17 : EI K mg "InvalidCastOn" (C 17) s_InvalidCastOn___init__ "InvalidCastOn.__init__" ["position"]
  e18 : EI K mg "InvalidSteps" (C 18) s_InvalidSteps___init__ "InvalidSteps.__init__" ["position"]
  e19 : EI K mg "InvalidBlock" (C 19) s_InvalidBlock___init__ "InvalidBlock.__init__" ["position"]
  e20 : EI K mg "InvalidStretches" (C 20) s_InvalidStretches___init__ "InvalidStretches.__init__" ["position"]
  e21 : EI K mg "InvalidSchedules" (C 21) s_InvalidSchedules___init__ "InvalidSchedules.__init__" ["position"]
  e22 : EI K mg "InvalidCell" (C 22) s_InvalidCell___init__ "InvalidCell.__init__" ["position"]
  e23 : EI K mg "BelowZero" (C 23) s_BelowZero___init__ "BelowZero.__init__" ["position"]
  e24 : EI K mg "UnknownKind" (C 24) s_UnknownKind___init__ "UnknownKind.__init__" ["name"]
  e25 : EI K mg "NoBack" (C 25) s_NoBack___init__ "NoBack.__init__" ["name"]
  e26 : EI K mg "NoMirror" (C 26) s_NoMirror___init__ "NoMirror.__init__" ["name"]
  e27 : EI K mg "UnknownPattern" (C 27) s_UnknownPattern___init__ "UnknownPattern.__init__" ["name"]
  e28 : EI K mg "NoRow" (C 28) s_NoRow___init__ "NoRow.__init__" ["number"]
  e29 : EI K mg "InvalidText" (C 29) s_InvalidText___init__ "InvalidText.__init__" ["problem"]
  e30 : EI K mg "InvalidLine" (C 30) s_InvalidLine___init__ "InvalidLine.__init__" ["line"]
  e31 : EI K mg "NotThrough" (C 31) s_NotThrough___init__ "NotThrough.__init__" ["outcome"]
  e32 : EI K mg "InvalidBook" (C 32) s_InvalidBook___init__ "InvalidBook.__init__" ["problem", "name"]
  e33 : EI K mg "NotFitting" (C 33) s_NotFitting___init__ "NotFitting.__init__" ["section", "loops"]
  e34 : EI K mg "TooMany" (C 34) s_TooMany___init__ "TooMany.__init__" ["what", "limit"]
  x35 : PySem.W.excIn K (C 35) [.type "ValueError", .type "Exception", .type "BaseException", .type "object"] "ValueError.__new__" = true
  g35 : mg "InvalidBooks" = some (.ref (C 35))
  k35 : PySem.W.keepIn K (.ref (C 35)) = true
  x36 : PySem.W.excIn K (C 36) [.type "RuntimeError", .type "Exception", .type "BaseException", .type "object"] "RuntimeError.__new__" = true
  g36 : mg "NothingToUndo" = some (.ref (C 36))
  k36 : PySem.W.keepIn K (.ref (C 36)) = true
  b0 : mg "StitchError" = some (.ref (S 0))
  b1 : mg "MissingError" = some (.ref (S 1))
  b2 : mg "StateError" = some (.ref (S 2))
  b3 : mg "LimitError" = some (.ref (S 3))
  n0 : mg "ValueError" = none
  n1 : mg "LookupError" = none
  n2 : mg "RuntimeError" = none
  n3 : mg "ArithmeticError" = none
/-- what the by_ defs promise: new errors of these classes with these fields -/
def spMk (n : Nat) (ds : List Mk1) : Sp := fun vs H Q _ => vs.length = n ∧ ∃ es, atAll (vs.map some) ds = some es ∧ ∀ l ws H', Same H H' → H l = none → H' l = some (.lst ws) → ErrsV H' ws es → Q (.ref l) H'
def twice (f : Nat → Mk1) (lo n : Nat) : List Mk1 := ((List.range n).map fun i => [f (lo + i), f (lo + i)]).flatten
def othersMk (C : Nat → Addr) : List Mk1 := [.one (C 28) "number" 0, .one (C 28) "number" 0, .one (C 29) "problem" 0, .one (C 29) "problem" 0, .one (C 30) "line" 0, .one (C 30) "line" 0, .one (C 31) "outcome" 0, .one (C 31) "outcome" 0, .two (C 32) "problem" "name" 0 1, .two (C 32) "problem" "name" 0 1, .two (C 33) "section" "loops" 0 1, .two (C 33) "section" "loops" 0 1, .two (C 34) "what" "limit" 0 1, .two (C 34) "what" "limit" 0 1, .none (C 35), .none (C 35), .none (C 36), .none (C 36)]
section
variable {P : Program} {w : World} {K : PySem.W.Frag} {mg : Str → Option Value} {base : Heap} {C S : Nat → Addr}
abbrev s__law_by_value : Stmt := top 47
theorem sc__law_by_value : FnScope ["_law_one", "_law_made"] ["_law_one"] (defScope s__law_by_value) := ⟨rfl, rfl, rfl, by decide +kernel, rfl, by decide +kernel, by decide +kernel⟩
theorem h_law_by_value (T : Tx K mg C S) (F : FunAt K mg "_law_by_value" "_law_by_value" s__law_by_value) : Has P w K mg base "_law_by_value" 3 ["_law_one"] (spMk 1 (twice (fun i => .one (C i) "value" 0) 0 14)) := by
  refine has_of F sc__law_by_value (fun _ _ _ _ _ _ us hl => match us, hl with | [_], _ => rfl) (fun vs H Q E h => h.1) (fun f cdv A outer s H vs Q E hr h => ?_)
  match vs, h with
  | [v], ⟨_, es, he, q⟩ =>
    cases he
    refine ⟨_, (pss_cons (ps_set (i := 1) sc__law_by_value.nd rfl (Or.inl rfl) (pe_lst (pam_cons (pe_mk1 T.e0.1 (ini_InvalidName T.e0) (hr.mono (by decide)) (pv 0)) (pam_cons (pe_mk1k T.e0.1 (ini_InvalidName T.e0) (hr.mono (by decide)) (pk_cons (pv 0) pk_nil)) (pam_cons (pe_mk1 T.e1.1 (ini_InvalidNumber T.e1) (hr.mono (by decide)) (pv 0)) (pam_cons (pe_mk1k T.e1.1 (ini_InvalidNumber T.e1) (hr.mono (by decide)) (pk_cons (pv 0) pk_nil)) pam_nil))))))
      (pss_cons (ps_set (i := 1) sc__law_by_value.nd rfl (Or.inl rfl) (pe_op op_cat (pv 1) (pe_lst (pam_cons (pe_mk1 T.e2.1 (ini_InvalidKind T.e2) (hr.mono (by decide)) (pv 0)) (pam_cons (pe_mk1k T.e2.1 (ini_InvalidKind T.e2) (hr.mono (by decide)) (pk_cons (pv 0) pk_nil)) (pam_cons (pe_mk1 T.e3.1 (ini_InvalidWord T.e3) (hr.mono (by decide)) (pv 0)) (pam_cons (pe_mk1k T.e3.1 (ini_InvalidWord T.e3) (hr.mono (by decide)) (pk_cons (pv 0) pk_nil)) pam_nil)))))))
      (pss_cons (ps_set (i := 1) sc__law_by_value.nd rfl (Or.inl rfl) (pe_op op_cat (pv 1) (pe_lst (pam_cons (pe_mk1 T.e4.1 (ini_InvalidCounts T.e4) (hr.mono (by decide)) (pv 0)) (pam_cons (pe_mk1k T.e4.1 (ini_InvalidCounts T.e4) (hr.mono (by decide)) (pk_cons (pv 0) pk_nil)) (pam_cons (pe_mk1 T.e5.1 (ini_InvalidSection T.e5) (hr.mono (by decide)) (pv 0)) (pam_cons (pe_mk1k T.e5.1 (ini_InvalidSection T.e5) (hr.mono (by decide)) (pk_cons (pv 0) pk_nil)) pam_nil)))))))
      (pss_cons (ps_set (i := 1) sc__law_by_value.nd rfl (Or.inl rfl) (pe_op op_cat (pv 1) (pe_lst (pam_cons (pe_mk1 T.e6.1 (ini_InvalidEdge T.e6) (hr.mono (by decide)) (pv 0)) (pam_cons (pe_mk1k T.e6.1 (ini_InvalidEdge T.e6) (hr.mono (by decide)) (pk_cons (pv 0) pk_nil)) (pam_cons (pe_mk1 T.e7.1 (ini_InvalidWay T.e7) (hr.mono (by decide)) (pv 0)) (pam_cons (pe_mk1k T.e7.1 (ini_InvalidWay T.e7) (hr.mono (by decide)) (pk_cons (pv 0) pk_nil)) pam_nil)))))))
      (pss_cons (ps_set (i := 1) sc__law_by_value.nd rfl (Or.inl rfl) (pe_op op_cat (pv 1) (pe_lst (pam_cons (pe_mk1 T.e8.1 (ini_InvalidSketch T.e8) (hr.mono (by decide)) (pv 0)) (pam_cons (pe_mk1k T.e8.1 (ini_InvalidSketch T.e8) (hr.mono (by decide)) (pk_cons (pv 0) pk_nil)) (pam_cons (pe_mk1 T.e9.1 (ini_InvalidPattern T.e9) (hr.mono (by decide)) (pv 0)) (pam_cons (pe_mk1k T.e9.1 (ini_InvalidPattern T.e9) (hr.mono (by decide)) (pk_cons (pv 0) pk_nil)) pam_nil)))))))
      (pss_cons (ps_set (i := 1) sc__law_by_value.nd rfl (Or.inl rfl) (pe_op op_cat (pv 1) (pe_lst (pam_cons (pe_mk1 T.e10.1 (ini_InvalidForm T.e10) (hr.mono (by decide)) (pv 0)) (pam_cons (pe_mk1k T.e10.1 (ini_InvalidForm T.e10) (hr.mono (by decide)) (pk_cons (pv 0) pk_nil)) (pam_cons (pe_mk1 T.e11.1 (ini_InvalidPoint T.e11) (hr.mono (by decide)) (pv 0)) (pam_cons (pe_mk1k T.e11.1 (ini_InvalidPoint T.e11) (hr.mono (by decide)) (pk_cons (pv 0) pk_nil)) pam_nil)))))))
      (pss_one (ps_ret (pe_op op_cat (pv 1) (pe_lst (pam_cons (pe_mk1 T.e12.1 (ini_InvalidFamily T.e12) (hr.mono (by decide)) (pv 0)) (pam_cons (pe_mk1k T.e12.1 (ini_InvalidFamily T.e12) (hr.mono (by decide)) (pk_cons (pv 0) pk_nil)) (pam_cons (pe_mk1 T.e13.1 (ini_InvalidCommand T.e13) (hr.mono (by decide)) (pv 0)) (pam_cons (pe_mk1k T.e13.1 (ini_InvalidCommand T.e13) (hr.mono (by decide)) (pk_cons (pv 0) pk_nil)) pam_nil)))))))))))))), ?_⟩
    refine seq_set (disp_mk rfl (Nat.le_of_ble_eq_true rfl) fun l1 w1 H1 s1 n1 e1 p1 => ?_)
    refine seq_set (cat_mk rfl e1 p1 rfl (Nat.le_of_ble_eq_true rfl) fun l2 w2 H2 s2 n2 e2 p2 => ?_)
    refine seq_set (cat_mk rfl e2 p2 rfl (Nat.le_of_ble_eq_true rfl) fun l3 w3 H3 s3 n3 e3 p3 => ?_)
    refine seq_set (cat_mk rfl e3 p3 rfl (Nat.le_of_ble_eq_true rfl) fun l4 w4 H4 s4 n4 e4 p4 => ?_)
    refine seq_set (cat_mk rfl e4 p4 rfl (Nat.le_of_ble_eq_true rfl) fun l5 w5 H5 s5 n5 e5 p5 => ?_)
    refine seq_set (cat_mk rfl e5 p5 rfl (Nat.le_of_ble_eq_true rfl) fun l6 w6 H6 s6 n6 e6 p6 => ?_)
    refine ret_of (cat_mk rfl e6 p6 rfl (Nat.le_of_ble_eq_true rfl) fun l7 w7 H7 s7 n7 e7 p7 => ?_)
    have st := (((((s1).trans s2).trans s3).trans s4).trans s5).trans s6
    exact q l7 w7 H7 (st.trans s7) (st.free n7) e7 p7
abbrev s__law_by_position : Stmt := top 48
theorem sc__law_by_position : FnScope ["_law_one", "_law_made"] ["_law_one"] (defScope s__law_by_position) := ⟨rfl, rfl, rfl, by decide +kernel, rfl, by decide +kernel, by decide +kernel⟩
theorem h_law_by_position (T : Tx K mg C S) (F : FunAt K mg "_law_by_position" "_law_by_position" s__law_by_position) : Has P w K mg base "_law_by_position" 3 ["_law_one"] (spMk 1 (twice (fun i => .one (C i) "position" 0) 14 10)) := by
  refine has_of F sc__law_by_position (fun _ _ _ _ _ _ us hl => match us, hl with | [_], _ => rfl) (fun vs H Q E h => h.1) (fun f cdv A outer s H vs Q E hr h => ?_)
  match vs, h with
  | [v], ⟨_, es, he, q⟩ =>
    cases he
    refine ⟨_, (pss_cons (ps_set (i := 1) sc__law_by_position.nd rfl (Or.inl rfl) (pe_lst (pam_cons (pe_mk1 T.e14.1 (ini_InvalidParts T.e14) (hr.mono (by decide)) (pv 0)) (pam_cons (pe_mk1k T.e14.1 (ini_InvalidParts T.e14) (hr.mono (by decide)) (pk_cons (pv 0) pk_nil)) (pam_cons (pe_mk1 T.e15.1 (ini_InvalidTexts T.e15) (hr.mono (by decide)) (pv 0)) (pam_cons (pe_mk1k T.e15.1 (ini_InvalidTexts T.e15) (hr.mono (by decide)) (pk_cons (pv 0) pk_nil)) pam_nil))))))
      (pss_cons (ps_set (i := 1) sc__law_by_position.nd rfl (Or.inl rfl) (pe_op op_cat (pv 1) (pe_lst (pam_cons (pe_mk1 T.e16.1 (ini_InvalidRows T.e16) (hr.mono (by decide)) (pv 0)) (pam_cons (pe_mk1k T.e16.1 (ini_InvalidRows T.e16) (hr.mono (by decide)) (pk_cons (pv 0) pk_nil)) (pam_cons (pe_mk1 T.e17.1 (ini_InvalidCastOn T.e17) (hr.mono (by decide)) (pv 0)) (pam_cons (pe_mk1k T.e17.1 (ini_InvalidCastOn T.e17) (hr.mono (by decide)) (pk_cons (pv 0) pk_nil)) pam_nil)))))))
      (pss_cons (ps_set (i := 1) sc__law_by_position.nd rfl (Or.inl rfl) (pe_op op_cat (pv 1) (pe_lst (pam_cons (pe_mk1 T.e18.1 (ini_InvalidSteps T.e18) (hr.mono (by decide)) (pv 0)) (pam_cons (pe_mk1k T.e18.1 (ini_InvalidSteps T.e18) (hr.mono (by decide)) (pk_cons (pv 0) pk_nil)) (pam_cons (pe_mk1 T.e19.1 (ini_InvalidBlock T.e19) (hr.mono (by decide)) (pv 0)) (pam_cons (pe_mk1k T.e19.1 (ini_InvalidBlock T.e19) (hr.mono (by decide)) (pk_cons (pv 0) pk_nil)) pam_nil)))))))
      (pss_cons (ps_set (i := 1) sc__law_by_position.nd rfl (Or.inl rfl) (pe_op op_cat (pv 1) (pe_lst (pam_cons (pe_mk1 T.e20.1 (ini_InvalidStretches T.e20) (hr.mono (by decide)) (pv 0)) (pam_cons (pe_mk1k T.e20.1 (ini_InvalidStretches T.e20) (hr.mono (by decide)) (pk_cons (pv 0) pk_nil)) (pam_cons (pe_mk1 T.e21.1 (ini_InvalidSchedules T.e21) (hr.mono (by decide)) (pv 0)) pam_nil))))))
      (pss_cons (ps_set (i := 1) sc__law_by_position.nd rfl (Or.inl rfl) (pe_op op_cat (pv 1) (pe_lst (pam_cons (pe_mk1k T.e21.1 (ini_InvalidSchedules T.e21) (hr.mono (by decide)) (pk_cons (pv 0) pk_nil)) (pam_cons (pe_mk1 T.e22.1 (ini_InvalidCell T.e22) (hr.mono (by decide)) (pv 0)) (pam_cons (pe_mk1k T.e22.1 (ini_InvalidCell T.e22) (hr.mono (by decide)) (pk_cons (pv 0) pk_nil)) pam_nil))))))
      (pss_one (ps_ret (pe_op op_cat (pv 1) (pe_lst (pam_cons (pe_mk1 T.e23.1 (ini_BelowZero T.e23) (hr.mono (by decide)) (pv 0)) (pam_cons (pe_mk1k T.e23.1 (ini_BelowZero T.e23) (hr.mono (by decide)) (pk_cons (pv 0) pk_nil)) pam_nil))))))))))), ?_⟩
    refine seq_set (disp_mk rfl (Nat.le_of_ble_eq_true rfl) fun l1 w1 H1 s1 n1 e1 p1 => ?_)
    refine seq_set (cat_mk rfl e1 p1 rfl (Nat.le_of_ble_eq_true rfl) fun l2 w2 H2 s2 n2 e2 p2 => ?_)
    refine seq_set (cat_mk rfl e2 p2 rfl (Nat.le_of_ble_eq_true rfl) fun l3 w3 H3 s3 n3 e3 p3 => ?_)
    refine seq_set (cat_mk rfl e3 p3 rfl (Nat.le_of_ble_eq_true rfl) fun l4 w4 H4 s4 n4 e4 p4 => ?_)
    refine seq_set (cat_mk rfl e4 p4 rfl (Nat.le_of_ble_eq_true rfl) fun l5 w5 H5 s5 n5 e5 p5 => ?_)
    refine ret_of (cat_mk rfl e5 p5 rfl (Nat.le_of_ble_eq_true rfl) fun l6 w6 H6 s6 n6 e6 p6 => ?_)
    have st := ((((s1).trans s2).trans s3).trans s4).trans s5
    exact q l6 w6 H6 (st.trans s6) (st.free n6) e6 p6
abbrev s__law_by_name : Stmt := top 49
theorem sc__law_by_name : FnScope ["_law_one", "_law_made"] ["_law_one"] (defScope s__law_by_name) := ⟨rfl, rfl, rfl, by decide +kernel, rfl, by decide +kernel, by decide +kernel⟩
theorem h_law_by_name (T : Tx K mg C S) (F : FunAt K mg "_law_by_name" "_law_by_name" s__law_by_name) : Has P w K mg base "_law_by_name" 3 ["_law_one"] (spMk 1 (twice (fun i => .one (C i) "name" 0) 24 4)) := by
  refine has_of F sc__law_by_name (fun _ _ _ _ _ _ us hl => match us, hl with | [_], _ => rfl) (fun vs H Q E h => h.1) (fun f cdv A outer s H vs Q E hr h => ?_)
  match vs, h with
  | [v], ⟨_, es, he, q⟩ =>
    cases he
    refine ⟨_, (pss_cons (ps_set (i := 1) sc__law_by_name.nd rfl (Or.inl rfl) (pe_lst (pam_cons (pe_mk1 T.e24.1 (ini_UnknownKind T.e24) (hr.mono (by decide)) (pv 0)) (pam_cons (pe_mk1k T.e24.1 (ini_UnknownKind T.e24) (hr.mono (by decide)) (pk_cons (pv 0) pk_nil)) (pam_cons (pe_mk1 T.e25.1 (ini_NoBack T.e25) (hr.mono (by decide)) (pv 0)) (pam_cons (pe_mk1k T.e25.1 (ini_NoBack T.e25) (hr.mono (by decide)) (pk_cons (pv 0) pk_nil)) pam_nil))))))
      (pss_one (ps_ret (pe_op op_cat (pv 1) (pe_lst (pam_cons (pe_mk1 T.e26.1 (ini_NoMirror T.e26) (hr.mono (by decide)) (pv 0)) (pam_cons (pe_mk1k T.e26.1 (ini_NoMirror T.e26) (hr.mono (by decide)) (pk_cons (pv 0) pk_nil)) (pam_cons (pe_mk1 T.e27.1 (ini_UnknownPattern T.e27) (hr.mono (by decide)) (pv 0)) (pam_cons (pe_mk1k T.e27.1 (ini_UnknownPattern T.e27) (hr.mono (by decide)) (pk_cons (pv 0) pk_nil)) pam_nil))))))))), ?_⟩
    refine seq_set (disp_mk rfl (Nat.le_of_ble_eq_true rfl) fun l1 w1 H1 s1 n1 e1 p1 => ?_)
    refine ret_of (cat_mk rfl e1 p1 rfl (Nat.le_of_ble_eq_true rfl) fun l2 w2 H2 s2 n2 e2 p2 => ?_)
    have st := s1
    exact q l2 w2 H2 (st.trans s2) (st.free n2) e2 p2
abbrev s__law_others : Stmt := top 50
theorem sc__law_others : FnScope ["_law_one", "_law_two", "_law_made"] ["_law_one", "_law_two"] (defScope s__law_others) := ⟨rfl, rfl, rfl, by decide +kernel, rfl, by decide +kernel, by decide +kernel⟩
theorem h_law_others (T : Tx K mg C S) (F : FunAt K mg "_law_others" "_law_others" s__law_others) : Has P w K mg base "_law_others" 3 ["_law_one", "_law_two"] (spMk 2 (othersMk C)) := by
  refine has_of F sc__law_others (fun _ _ _ _ _ _ us hl => match us, hl with | [_, _], _ => rfl) (fun vs H Q E h => h.1) (fun f cdv A outer s H vs Q E hr h => ?_)
  match vs, h with
  | [v, u], ⟨_, es, he, q⟩ =>
    cases he
    refine ⟨_, (pss_cons (ps_set (i := 2) sc__law_others.nd rfl (Or.inl rfl) (pe_lst (pam_cons (pe_mk1 T.e28.1 (ini_NoRow T.e28) (hr.mono (by decide)) (pv 0)) (pam_cons (pe_mk1k T.e28.1 (ini_NoRow T.e28) (hr.mono (by decide)) (pk_cons (pv 0) pk_nil)) (pam_cons (pe_mk1 T.e29.1 (ini_InvalidText T.e29) (hr.mono (by decide)) (pv 0)) (pam_cons (pe_mk1k T.e29.1 (ini_InvalidText T.e29) (hr.mono (by decide)) (pk_cons (pv 0) pk_nil)) pam_nil))))))
      (pss_cons (ps_set (i := 2) sc__law_others.nd rfl (Or.inl rfl) (pe_op op_cat (pv 2) (pe_lst (pam_cons (pe_mk1 T.e30.1 (ini_InvalidLine T.e30) (hr.mono (by decide)) (pv 0)) (pam_cons (pe_mk1k T.e30.1 (ini_InvalidLine T.e30) (hr.mono (by decide)) (pk_cons (pv 0) pk_nil)) (pam_cons (pe_mk1 T.e31.1 (ini_NotThrough T.e31) (hr.mono (by decide)) (pv 0)) (pam_cons (pe_mk1k T.e31.1 (ini_NotThrough T.e31) (hr.mono (by decide)) (pk_cons (pv 0) pk_nil)) pam_nil)))))))
      (pss_cons (ps_set (i := 2) sc__law_others.nd rfl (Or.inl rfl) (pe_op op_cat (pv 2) (pe_lst (pam_cons (pe_mk2 T.e32.1 (ini_InvalidBook T.e32) (hr.mono (by decide)) (pv 0) (pv 1)) (pam_cons (pe_mk2k T.e32.1 (ini_InvalidBook T.e32) (hr.mono (by decide)) (pk_cons (pv 1) (pk_cons (pv 0) pk_nil))) pam_nil)))))
      (pss_cons (ps_set (i := 2) sc__law_others.nd rfl (Or.inl rfl) (pe_op op_cat (pv 2) (pe_lst (pam_cons (pe_mk2 T.e33.1 (ini_NotFitting T.e33) (hr.mono (by decide)) (pv 0) (pv 1)) (pam_cons (pe_mk2k T.e33.1 (ini_NotFitting T.e33) (hr.mono (by decide)) (pk_cons (pv 1) (pk_cons (pv 0) pk_nil))) pam_nil)))))
      (pss_cons (ps_set (i := 2) sc__law_others.nd rfl (Or.inl rfl) (pe_op op_cat (pv 2) (pe_lst (pam_cons (pe_mk2 T.e34.1 (ini_TooMany T.e34) (hr.mono (by decide)) (pv 0) (pv 1)) (pam_cons (pe_mk2k T.e34.1 (ini_TooMany T.e34) (hr.mono (by decide)) (pk_cons (pv 1) (pk_cons (pv 0) pk_nil))) pam_nil)))))
      (pss_one (ps_ret (pe_op op_cat (pv 2) (pe_lst (pam_cons (pe_mk0 PySem.F.excBase_ValueError T.x35 T.g35 T.k35) (pam_cons (pe_mk0 PySem.F.excBase_ValueError T.x35 T.g35 T.k35) (pam_cons (pe_mk0 PySem.F.excBase_RuntimeError T.x36 T.g36 T.k36) (pam_cons (pe_mk0 PySem.F.excBase_RuntimeError T.x36 T.g36 T.k36) pam_nil))))))))))))), ?_⟩
    refine seq_set (disp_mk rfl (Nat.le_of_ble_eq_true rfl) fun l1 w1 H1 s1 n1 e1 p1 => ?_)
    refine seq_set (cat_mk rfl e1 p1 rfl (Nat.le_of_ble_eq_true rfl) fun l2 w2 H2 s2 n2 e2 p2 => ?_)
    refine seq_set (cat_mk rfl e2 p2 rfl (Nat.le_of_ble_eq_true rfl) fun l3 w3 H3 s3 n3 e3 p3 => ?_)
    refine seq_set (cat_mk rfl e3 p3 rfl (Nat.le_of_ble_eq_true rfl) fun l4 w4 H4 s4 n4 e4 p4 => ?_)
    refine seq_set (cat_mk rfl e4 p4 rfl (Nat.le_of_ble_eq_true rfl) fun l5 w5 H5 s5 n5 e5 p5 => ?_)
    refine ret_of (cat_mk rfl e5 p5 rfl (Nat.le_of_ble_eq_true rfl) fun l6 w6 H6 s6 n6 e6 p6 => ?_)
    have st := ((((s1).trans s2).trans s3).trans s4).trans s5
    exact q l6 w6 H6 (st.trans s6) (st.free n6) e6 p6
abbrev s__law_marks : Stmt := top 51
theorem sc__law_marks : FnScope ["_law_made", "_law_marks_here"] ["_law_made"] (defScope s__law_marks) := ⟨rfl, rfl, rfl, by decide +kernel, rfl, by decide +kernel, by decide +kernel⟩
def spMarks (C : Nat → Addr) : Sp := fun vs H Q _ => ∃ (a : Addr) (i : Nat) (fs : List (Str × V)), vs = [.ref a] ∧ i < 37 ∧ ErrAt H a (C i) fs ∧ ∀ l H', Same H H' → H l = none → H' l = some (.lst ((List.range 37).map fun j => .bl (decide (i = j)))) → Q (.ref l) H'
theorem h_law_marks (B : Blts mg) (T : Tx K mg C S) (F : FunAt K mg "_law_marks" "_law_marks" s__law_marks) : Has P w K mg base "_law_marks" 1 ["_law_made"] (spMarks C) := by
  refine has_of F sc__law_marks (fun _ _ _ _ _ _ us hl => match us, hl with | [_], _ => rfl) (fun vs H Q E h => ?_) (fun f cdv A outer s H vs Q E hr h => ?_)
  · obtain ⟨a, i, fs, rfl, _⟩ := h; rfl
  · obtain ⟨a, i, fs, rfl, hi, ea, q⟩ := h
    refine ⟨_, (pss_cons (ps_set (i := 1) sc__law_marks.nd rfl (Or.inl rfl) (pe_lst (pai_cons (pe_is K rfl (pv 0) (pe_glob (v := .ref (C 0)) rfl T.e0.1.g rfl) (.own _) B.n_isinstance) (pai_cons (pe_is K rfl (pv 0) (pe_glob (v := .ref (C 1)) rfl T.e1.1.g rfl) (.own _) B.n_isinstance) (pai_cons (pe_is K rfl (pv 0) (pe_glob (v := .ref (C 2)) rfl T.e2.1.g rfl) (.own _) B.n_isinstance) (pai_nil K))))))
      (pss_cons (ps_set (i := 1) sc__law_marks.nd rfl (Or.inl rfl) (pe_op op_cat (pv 1) (pe_lst (pai_cons (pe_is K rfl (pv 0) (pe_glob (v := .ref (C 3)) rfl T.e3.1.g rfl) (.own _) B.n_isinstance) (pai_cons (pe_is K rfl (pv 0) (pe_glob (v := .ref (C 4)) rfl T.e4.1.g rfl) (.own _) B.n_isinstance) (pai_cons (pe_is K rfl (pv 0) (pe_glob (v := .ref (C 5)) rfl T.e5.1.g rfl) (.own _) B.n_isinstance) (pai_nil K)))))))
      (pss_cons (ps_set (i := 1) sc__law_marks.nd rfl (Or.inl rfl) (pe_op op_cat (pv 1) (pe_lst (pai_cons (pe_is K rfl (pv 0) (pe_glob (v := .ref (C 6)) rfl T.e6.1.g rfl) (.own _) B.n_isinstance) (pai_cons (pe_is K rfl (pv 0) (pe_glob (v := .ref (C 7)) rfl T.e7.1.g rfl) (.own _) B.n_isinstance) (pai_cons (pe_is K rfl (pv 0) (pe_glob (v := .ref (C 8)) rfl T.e8.1.g rfl) (.own _) B.n_isinstance) (pai_nil K)))))))
      (pss_cons (ps_set (i := 1) sc__law_marks.nd rfl (Or.inl rfl) (pe_op op_cat (pv 1) (pe_lst (pai_cons (pe_is K rfl (pv 0) (pe_glob (v := .ref (C 9)) rfl T.e9.1.g rfl) (.own _) B.n_isinstance) (pai_cons (pe_is K rfl (pv 0) (pe_glob (v := .ref (C 10)) rfl T.e10.1.g rfl) (.own _) B.n_isinstance) (pai_cons (pe_is K rfl (pv 0) (pe_glob (v := .ref (C 11)) rfl T.e11.1.g rfl) (.own _) B.n_isinstance) (pai_nil K)))))))
      (pss_cons (ps_set (i := 1) sc__law_marks.nd rfl (Or.inl rfl) (pe_op op_cat (pv 1) (pe_lst (pai_cons (pe_is K rfl (pv 0) (pe_glob (v := .ref (C 12)) rfl T.e12.1.g rfl) (.own _) B.n_isinstance) (pai_cons (pe_is K rfl (pv 0) (pe_glob (v := .ref (C 13)) rfl T.e13.1.g rfl) (.own _) B.n_isinstance) (pai_nil K))))))
      (pss_cons (ps_set (i := 1) sc__law_marks.nd rfl (Or.inl rfl) (pe_op op_cat (pv 1) (pe_lst (pai_cons (pe_is K rfl (pv 0) (pe_glob (v := .ref (C 14)) rfl T.e14.1.g rfl) (.own _) B.n_isinstance) (pai_cons (pe_is K rfl (pv 0) (pe_glob (v := .ref (C 15)) rfl T.e15.1.g rfl) (.own _) B.n_isinstance) (pai_cons (pe_is K rfl (pv 0) (pe_glob (v := .ref (C 16)) rfl T.e16.1.g rfl) (.own _) B.n_isinstance) (pai_nil K)))))))
      (pss_cons (ps_set (i := 1) sc__law_marks.nd rfl (Or.inl rfl) (pe_op op_cat (pv 1) (pe_lst (pai_cons (pe_is K rfl (pv 0) (pe_glob (v := .ref (C 17)) rfl T.e17.1.g rfl) (.own _) B.n_isinstance) (pai_cons (pe_is K rfl (pv 0) (pe_glob (v := .ref (C 18)) rfl T.e18.1.g rfl) (.own _) B.n_isinstance) (pai_cons (pe_is K rfl (pv 0) (pe_glob (v := .ref (C 19)) rfl T.e19.1.g rfl) (.own _) B.n_isinstance) (pai_nil K)))))))
      (pss_cons (ps_set (i := 1) sc__law_marks.nd rfl (Or.inl rfl) (pe_op op_cat (pv 1) (pe_lst (pai_cons (pe_is K rfl (pv 0) (pe_glob (v := .ref (C 20)) rfl T.e20.1.g rfl) (.own _) B.n_isinstance) (pai_cons (pe_is K rfl (pv 0) (pe_glob (v := .ref (C 21)) rfl T.e21.1.g rfl) (.own _) B.n_isinstance) (pai_nil K))))))
      (pss_cons (ps_set (i := 1) sc__law_marks.nd rfl (Or.inl rfl) (pe_op op_cat (pv 1) (pe_lst (pai_cons (pe_is K rfl (pv 0) (pe_glob (v := .ref (C 22)) rfl T.e22.1.g rfl) (.own _) B.n_isinstance) (pai_cons (pe_is K rfl (pv 0) (pe_glob (v := .ref (C 23)) rfl T.e23.1.g rfl) (.own _) B.n_isinstance) (pai_nil K))))))
      (pss_cons (ps_set (i := 1) sc__law_marks.nd rfl (Or.inl rfl) (pe_op op_cat (pv 1) (pe_lst (pai_cons (pe_is K rfl (pv 0) (pe_glob (v := .ref (C 24)) rfl T.e24.1.g rfl) (.own _) B.n_isinstance) (pai_cons (pe_is K rfl (pv 0) (pe_glob (v := .ref (C 25)) rfl T.e25.1.g rfl) (.own _) B.n_isinstance) (pai_cons (pe_is K rfl (pv 0) (pe_glob (v := .ref (C 26)) rfl T.e26.1.g rfl) (.own _) B.n_isinstance) (pai_nil K)))))))
      (pss_cons (ps_set (i := 1) sc__law_marks.nd rfl (Or.inl rfl) (pe_op op_cat (pv 1) (pe_lst (pai_cons (pe_is K rfl (pv 0) (pe_glob (v := .ref (C 27)) rfl T.e27.1.g rfl) (.own _) B.n_isinstance) (pai_nil K)))))
      (pss_cons (ps_set (i := 1) sc__law_marks.nd rfl (Or.inl rfl) (pe_op op_cat (pv 1) (pe_lst (pai_cons (pe_is K rfl (pv 0) (pe_glob (v := .ref (C 28)) rfl T.e28.1.g rfl) (.own _) B.n_isinstance) (pai_cons (pe_is K rfl (pv 0) (pe_glob (v := .ref (C 29)) rfl T.e29.1.g rfl) (.own _) B.n_isinstance) (pai_cons (pe_is K rfl (pv 0) (pe_glob (v := .ref (C 30)) rfl T.e30.1.g rfl) (.own _) B.n_isinstance) (pai_nil K)))))))
      (pss_cons (ps_set (i := 1) sc__law_marks.nd rfl (Or.inl rfl) (pe_op op_cat (pv 1) (pe_lst (pai_cons (pe_is K rfl (pv 0) (pe_glob (v := .ref (C 31)) rfl T.e31.1.g rfl) (.own _) B.n_isinstance) (pai_cons (pe_is K rfl (pv 0) (pe_glob (v := .ref (C 32)) rfl T.e32.1.g rfl) (.own _) B.n_isinstance) (pai_cons (pe_is K rfl (pv 0) (pe_glob (v := .ref (C 33)) rfl T.e33.1.g rfl) (.own _) B.n_isinstance) (pai_nil K)))))))
      (pss_one (ps_ret (pe_op op_cat (pv 1) (pe_lst (pai_cons (pe_is K rfl (pv 0) (pe_glob (v := .ref (C 34)) rfl T.e34.1.g rfl) (.own _) B.n_isinstance) (pai_cons (pe_is K rfl (pv 0) (pe_glob (v := .ref (C 35)) rfl T.g35 rfl) (.own _) B.n_isinstance) (pai_cons (pe_is K rfl (pv 0) (pe_glob (v := .ref (C 36)) rfl T.g36 rfl) (.own _) B.n_isinstance) (pai_nil K))))))))))))))))))))), ?_⟩
    have x := T.cl.ex i hi
    refine seq_set (disp_is rfl ea x (.cons (T.cl.leaf hi (by decide)) (.cons (T.cl.leaf hi (by decide)) (.cons (T.cl.leaf hi (by decide)) .nil))) (Nat.le_of_ble_eq_true rfl) fun l1 H1 s1 n1 e1 => ?_)
    have st2 := s1
    refine seq_set (cat_is rfl e1 rfl (ea.same st2) x (.cons (T.cl.leaf hi (by decide)) (.cons (T.cl.leaf hi (by decide)) (.cons (T.cl.leaf hi (by decide)) .nil))) (Nat.le_of_ble_eq_true rfl) fun l2 H2 s2 n2 e2 => ?_)
    have st3 := st2.trans s2
    refine seq_set (cat_is rfl e2 rfl (ea.same st3) x (.cons (T.cl.leaf hi (by decide)) (.cons (T.cl.leaf hi (by decide)) (.cons (T.cl.leaf hi (by decide)) .nil))) (Nat.le_of_ble_eq_true rfl) fun l3 H3 s3 n3 e3 => ?_)
    have st4 := st3.trans s3
    refine seq_set (cat_is rfl e3 rfl (ea.same st4) x (.cons (T.cl.leaf hi (by decide)) (.cons (T.cl.leaf hi (by decide)) (.cons (T.cl.leaf hi (by decide)) .nil))) (Nat.le_of_ble_eq_true rfl) fun l4 H4 s4 n4 e4 => ?_)
    have st5 := st4.trans s4
    refine seq_set (cat_is rfl e4 rfl (ea.same st5) x (.cons (T.cl.leaf hi (by decide)) (.cons (T.cl.leaf hi (by decide)) .nil)) (Nat.le_of_ble_eq_true rfl) fun l5 H5 s5 n5 e5 => ?_)
    have st6 := st5.trans s5
    refine seq_set (cat_is rfl e5 rfl (ea.same st6) x (.cons (T.cl.leaf hi (by decide)) (.cons (T.cl.leaf hi (by decide)) (.cons (T.cl.leaf hi (by decide)) .nil))) (Nat.le_of_ble_eq_true rfl) fun l6 H6 s6 n6 e6 => ?_)
    have st7 := st6.trans s6
    refine seq_set (cat_is rfl e6 rfl (ea.same st7) x (.cons (T.cl.leaf hi (by decide)) (.cons (T.cl.leaf hi (by decide)) (.cons (T.cl.leaf hi (by decide)) .nil))) (Nat.le_of_ble_eq_true rfl) fun l7 H7 s7 n7 e7 => ?_)
    have st8 := st7.trans s7
    refine seq_set (cat_is rfl e7 rfl (ea.same st8) x (.cons (T.cl.leaf hi (by decide)) (.cons (T.cl.leaf hi (by decide)) .nil)) (Nat.le_of_ble_eq_true rfl) fun l8 H8 s8 n8 e8 => ?_)
    have st9 := st8.trans s8
    refine seq_set (cat_is rfl e8 rfl (ea.same st9) x (.cons (T.cl.leaf hi (by decide)) (.cons (T.cl.leaf hi (by decide)) .nil)) (Nat.le_of_ble_eq_true rfl) fun l9 H9 s9 n9 e9 => ?_)
    have st10 := st9.trans s9
    refine seq_set (cat_is rfl e9 rfl (ea.same st10) x (.cons (T.cl.leaf hi (by decide)) (.cons (T.cl.leaf hi (by decide)) (.cons (T.cl.leaf hi (by decide)) .nil))) (Nat.le_of_ble_eq_true rfl) fun l10 H10 s10 n10 e10 => ?_)
    have st11 := st10.trans s10
    refine seq_set (cat_is rfl e10 rfl (ea.same st11) x (.cons (T.cl.leaf hi (by decide)) .nil) (Nat.le_of_ble_eq_true rfl) fun l11 H11 s11 n11 e11 => ?_)
    have st12 := st11.trans s11
    refine seq_set (cat_is rfl e11 rfl (ea.same st12) x (.cons (T.cl.leaf hi (by decide)) (.cons (T.cl.leaf hi (by decide)) (.cons (T.cl.leaf hi (by decide)) .nil))) (Nat.le_of_ble_eq_true rfl) fun l12 H12 s12 n12 e12 => ?_)
    have st13 := st12.trans s12
    refine seq_set (cat_is rfl e12 rfl (ea.same st13) x (.cons (T.cl.leaf hi (by decide)) (.cons (T.cl.leaf hi (by decide)) (.cons (T.cl.leaf hi (by decide)) .nil))) (Nat.le_of_ble_eq_true rfl) fun l13 H13 s13 n13 e13 => ?_)
    have st14 := st13.trans s13
    refine ret_of (cat_is rfl e13 rfl (ea.same st14) x (.cons (T.cl.leaf hi (by decide)) (.cons (T.cl.leaf hi (by decide)) (.cons (T.cl.leaf hi (by decide)) .nil))) (Nat.le_of_ble_eq_true rfl) fun l14 H14 s14 n14 e14 => ?_)
    exact q l14 H14 (st14.trans s14) (st14.free n14) e14
end
end N

set_option maxHeartbeats 4000000
namespace L2
open PySem PySem.Spec PyProof.Rows
theorem seq_cut {a b : TS} {D : Ends} {σ : St} {H : Hp} (J : St → Hp → Prop) (h1 : ∀ Z : St → Hp → Prop, (∀ σ' H', J σ' H' → Z σ' H') → a { D with nx := Z } σ H) (h2 : ∀ σ' H', J σ' H' → b D σ' H') : tSeq a b D σ H :=
  h1 _ h2
theorem seq_c {v : V} {i : Nat} {b : TS} {D : Ends} {σ : St} {H : Hp} (h : b D (σ.set i (some v)) H) : tSeq (tAsg (tC v) (gName i)) b D σ H := h
theorem op_in_seqK {X : Cx} (K : PySem.W.Frag) (hK : X.K = K := by rfl) : OpR X (compareOp .In) (rIn K false) := by
  subst hK
  exact op_in_seq
theorem dp_bools {K : PySem.W.Frag} {H : Hp} {a : Addr} {bs : List Bool} (h : SqL K H a (bs.map V.bl)) : Dp K H (.ref a) (.list (bs.map PyData.bool)) := by
  refine .lst h ?_
  clear h
  induction bs with
  | nil => exact .nil
  | cons b r ih => exact .cons (.bl b) ih
theorem bools_shaped (bs : List Bool) : SeqAt.shaped (.list (bs.map PyData.bool)) = true := by
  have h1 : PyData.canLayAll0 (bs.map PyData.bool) = true := by
    induction bs with
    | nil => rfl
    | cons b r ih => simpa [PyData.canLayAll0, PyData.canLay0] using ih
  have h2 : PyData.depthAll (bs.map PyData.bool) = 0 := by
    induction bs with
    | nil => rfl
    | cons b r ih => simp [PyData.depthAll, PyData.depth, ih (by simpa [PyData.canLayAll0, PyData.canLay0] using h1)]
  unfold SeqAt.shaped
  simp [PyData.canLay0, h1, PyData.depth, h2]
theorem bools_eqv (bs : List Bool) : PyData.eqv (.list (bs.map PyData.bool)) (.list (bs.map PyData.bool)) = true := SeqAt.eqv_refl _ (SeqAt.canLay_of_shaped (bools_shaped bs))
/-- [e for x in range(n)] whose item number i is val i -/
theorem lc_mapr {n : Nat} {g : TG} {te : TE} {vs : List Nat} {σ : St} {H1 : Hp} {D : Addr} {Qd : Hp → Prop} (val : Nat → V) (nD : H1 D = none) (hn : n < 1000000)
    (hs : ∀ i H, i < n → Same H1 H → ∀ R : V → Hp → Prop, (∀ H4, Same H H4 → R (val i) H4) → g (.int (0 + i)) (wipe σ vs) H fun σ2 H2 => wipe σ2 vs = wipe σ vs ∧ te σ2 H2 R)
    (hd : ∀ H, Same H1 H → H D = some (.lst ((List.range n).map val)) → Qd H) :
    ∃ W : Nat → Nat → Hp → Prop, (∃ m, W 0 m (upd H1 D (.lst []))) ∧ ∀ i m H, W i m H →
      ((Itr 0 n).stop i H ∧ Qd H) ∨ ((Itr 0 n).go i H ∧ ∃ Nx : Hp → Prop, (∀ H', Nx H' → ∃ m', m' < m ∧ W (i + 1) m' H') ∧ ∀ x H', (Itr 0 n).yld i H x H' → g x (wipe σ vs) H' fun σ2 H2 => wipe σ2 vs = wipe σ vs ∧ tYes σ2 H2 fun b H3 =>
        if b = true then te σ2 H3 fun y H4 => ∃ acc, H4 D = some (.lst acc) ∧ acc.length < sizeLine ∧ Nx (upd H4 D (.lst (acc ++ [y]))) else Nx H3) := by
  refine lc_range (lo := 0) (n := n) (fun i H => Same H1 H ∧ H D = some (.lst ((List.range i).map val))) ⟨fun b o h => by rw [upd_ne (ne_of_none h nD)]; exact h, upd_same⟩ ?_ (fun H p => hd H p.1 p.2)
  rintro i H hi ⟨p1, p2⟩
  have h := hs i H hi p1 (fun y' H4 => ∃ acc, H4 D = some (.lst acc) ∧ acc.length < sizeLine ∧ (Same H1 (upd H4 D (.lst (acc ++ [y']))) ∧ (upd H4 D (.lst (acc ++ [y']))) D = some (.lst ((List.range (i + 1)).map val)))) fun H4 s4 => by
    refine ⟨_, s4 _ _ p2, ?_, (p1.trans s4).mut nD, ?_⟩
    · rw [List.length_map, List.length_range]
      exact Nat.lt_of_lt_of_le (by omega : i < 1000000) (by decide)
    · rw [List.range_succ, List.map_append]
      exact upd_same
  exact h
end L2
namespace N
open PySem L2
def spBase (C : Nat → Addr) : Sp := fun vs H Q _ => ∃ (a : Addr) (i : Nat) (fs : List (Str × V)), vs = [.ref a, .int i] ∧ i < 37 ∧ ErrAt H a (C i) fs ∧ ∀ H', Same H H' → Q (.bl true) H'
section
variable {P : Program} {w : World} {K : PySem.W.Frag} {mg : Str → Option Value} {base : Heap} {C S : Nat → Addr}
abbrev s__law_base_right : Stmt := top 52
theorem sc__law_base_right : FnScope ["_law_made", "_law_place", "_law_bases", "_law_at", "_law_k"] ["_law_made", "_law_place"] (defScope s__law_base_right) := ⟨rfl, rfl, rfl, by decide +kernel, rfl, by decide +kernel, by decide +kernel⟩
theorem h_law_base_right (B : Blts mg) (T : Tx K mg C S) (F : FunAt K mg "_law_base_right" "_law_base_right" s__law_base_right) : Has P w K mg base "_law_base_right" 1 ["_law_made", "_law_place"] (spBase C) := by
  refine has_of F sc__law_base_right (fun _ _ _ _ _ _ us hl => match us, hl with | [_, _], _ => rfl) (fun vs H Q E h => ?_) (fun f cdv A outer s H vs Q E hr h => ?_)
  · obtain ⟨a, i, fs, rfl, _⟩ := h; rfl
  · obtain ⟨a, i, fs, rfl, hi, ea, q⟩ := h
    refine ⟨_, (pss_cons (ps_set (i := 2) sc__law_base_right.nd rfl (Or.inl rfl) (pe_lst (pai_cons (pe_is K rfl (pv 0) (pe_glob (v := .ref (S 0)) rfl T.b0 rfl) (.own _) B.n_isinstance) (pai_cons (pe_is K rfl (pv 0) (pe_glob (v := .ref (S 1)) rfl T.b1 rfl) (.own _) B.n_isinstance) (pai_cons (pe_is K rfl (pv 0) (pe_glob (v := .ref (S 2)) rfl T.b2 rfl) (.own _) B.n_isinstance) (pai_nil K))))))
      (pss_cons (ps_set (i := 2) sc__law_base_right.nd rfl (Or.inl rfl) (pe_op op_cat (pv 2) (pe_lst (pai_cons (pe_is K rfl (pv 0) (pe_glob (v := .ref (S 3)) rfl T.b3 rfl) (.own _) B.n_isinstance) (pai_cons (pe_is K rfl (pv 0) (pe_bltn (v := .ty "ValueError") (u := .type "ValueError") rfl T.n0 (by decide +kernel) rfl) (.ty _) B.n_isinstance) (pai_cons (pe_is K rfl (pv 0) (pe_bltn (v := .ty "LookupError") (u := .type "LookupError") rfl T.n1 (by decide +kernel) rfl) (.ty _) B.n_isinstance) (pai_nil K)))))))
      (pss_cons (ps_set (i := 2) sc__law_base_right.nd rfl (Or.inl rfl) (pe_op op_cat (pv 2) (pe_lst (pai_cons (pe_is K rfl (pv 0) (pe_bltn (v := .ty "RuntimeError") (u := .type "RuntimeError") rfl T.n2 (by decide +kernel) rfl) (.ty _) B.n_isinstance) (pai_cons (pe_is K rfl (pv 0) (pe_bltn (v := .ty "ArithmeticError") (u := .type "ArithmeticError") rfl T.n3 (by decide +kernel) rfl) (.ty _) B.n_isinstance) (pai_nil K))))))
      (pss_cons (ps_set (i := 3) sc__law_base_right.nd rfl (Or.inr rfl) pe_int)
      (pss_cons (ps_if (pt_chain op_le op_le pe_int (pv 1) pe_int) (pss_one (ps_set (i := 3) sc__law_base_right.nd rfl (Or.inr rfl) pe_int))
        pss_nil)
      (pss_cons (ps_if (pt_cmpR op_in_seq (pv 1) (pe_tup (pa_cons pe_int (pa_cons pe_int (pa_cons pe_int (pa_cons pe_int pa_nil))))) (by first | exact nomark _ | rfl)) (pss_one (ps_set (i := 3) sc__law_base_right.nd rfl (Or.inr rfl) pe_int))
        pss_nil)
      (pss_cons (ps_if (pt_cmpR op_eq (pv 1) pe_int (by first | exact nomark _ | rfl)) (pss_one (ps_set (i := 3) sc__law_base_right.nd rfl (Or.inr rfl) pe_int))
        pss_nil)
      (pss_one (ps_ret (pe_cmpR (op_eqD hr.units) (pv 2) (pe_lc (own := [("_law_k", 4)]) rfl sc__law_base_right.nd (pi_range1 (by rfl) B.n_range (pa_cons pe_int pa_nil)) (blkOk_by (own := [("_law_k", 4)]) (N := ["_law_made", "_law_place", "_law_bases", "_law_at", "_law_k"]) (sc := defScope s__law_base_right) (by decide +kernel)) (fun _ _ _ _ _ => by exact (pg_name (i := 4) sc__law_base_right.nd rfl (Or.inl rfl))) (fun _ _ _ _ _ => by exact pts_nil) (fun _ _ _ _ _ => by exact (pe_cmpR (op_in_seqK K) (pv 4) (pe_tup (pa_cons (pv 3) (pa_cons (pe_op op_add (pv 3) pe_int) pa_nil))) (by first | exact nomark _ | rfl)))) (by first | exact nomark _ | rfl))))))))))), ?_⟩
    have x := T.cl.ex i hi
    have bs : ∀ {b}, b < 4 → _ := fun {b} hb => T.cl.base (i := i) hi (b := b) hb
    have bb : ∀ {b}, b < 4 → _ := fun {b} hb => T.cl.built (i := i) hi (b := b) hb
    refine seq_set (disp_is rfl ea x (.cons (bs (by decide)) (.cons (bs (by decide)) (.cons (bs (by decide)) .nil))) (Nat.le_of_ble_eq_true rfl) fun l1 H1 s1 n1 e1 => ?_)
    refine seq_set (cat_is rfl e1 rfl (ea.same s1) x (.cons (bs (by decide)) (.cons (bb (b := 0) (by decide)) (.cons (bb (b := 1) (by decide)) .nil))) (Nat.le_of_ble_eq_true rfl) fun l2 H2 s2 n2 e2 => ?_)
    refine seq_set (cat_is rfl e2 rfl (ea.same (s1.trans s2)) x (.cons (bb (b := 2) (by decide)) (.cons (bb (b := 3) (by decide)) .nil)) (Nat.le_of_ble_eq_true rfl) fun l3 H3 s3 n3 e3 => ?_)
    have s123 := (s1.trans s2).trans s3
    refine seq_c ?_
    refine seq_cut (fun σ' H' => H3 = H' ∧ σ' = [some (.ref a), some (.int i), some (.ref l3), some (.int (if 24 ≤ i ∧ i ≤ 28 then 1 else 0)), none]) (fun Z hZ => ?_) ?_
    · refine ⟨_, rfl, _, _, rfl, rfl, _, rfl, ite2 (fun c1 => ⟨_, _, rfl, rfl, _, rfl, ite2 (fun c2 => hZ _ _ ⟨rfl, ?_⟩) (fun c2 => hZ _ _ ⟨rfl, ?_⟩)⟩) (fun c1 => ⟨_, rfl, iteF (hZ _ _ ⟨rfl, ?_⟩)⟩)⟩
      · have c1 := of_decide_eq_true c1
        have c2 := of_decide_eq_true c2
        rw [if_pos ⟨by omega, by omega⟩]
        rfl
      · have c1 := of_decide_eq_true c1
        have c2 : ¬ ((i : Int) ≤ 28) := fun z => c2 (decide_eq_true z)
        rw [if_neg (by omega)]
        rfl
      · have c1 : ¬ ((24 : Int) ≤ i) := fun z => c1 (decide_eq_true z)
        rw [if_neg (by omega)]
        rfl
    rintro _ _ ⟨rfl, rfl⟩
    refine seq_cut (fun σ' H' => Same H3 H' ∧ σ' = [some (.ref a), some (.int i), some (.ref l3), some (.int (if i = 23 ∨ i = 31 ∨ i = 33 ∨ i = 36 then 2 else if 24 ≤ i ∧ i ≤ 28 then 1 else 0)), none]) (fun Z hZ => ?_) ?_
    · refine ⟨_, rfl, (by show 4 ≤ sizeLine; decide), fun t ht => ⟨t, _, rfl, .inr (SqT.of upd_same), rfl, rfl, _, rfl, ?_⟩⟩
      have st : Same H3 (upd H3 t (.tup [.int 23, .int 31, .int 33, .int 36])) := fun b o e => by rw [upd_ne (ne_of_none e ht)]; exact e
      have ev : inV (.int (i : Int)) [.int 23, .int 31, .int 33, .int 36] = decide (i = 23 ∨ i = 31 ∨ i = 33 ∨ i = 36) := by
        simp only [inV, List.any_cons, List.any_nil, eqV, Bool.or_false]
        rw [Bool.eq_iff_iff]
        simp
        omega
      show if inV (.int (i : Int)) [.int 23, .int 31, .int 33, .int 36] = true then _ else _
      rw [ev]
      refine ite2 (fun c => hZ _ _ ⟨st, ?_⟩) (fun c => hZ _ _ ⟨st, ?_⟩)
      · rw [if_pos (of_decide_eq_true c)]
        rfl
      · rw [if_neg (fun z => c (decide_eq_true z))]
    rintro _ H4 ⟨s4, rfl⟩
    have fin : (if i = 34 then (3 : Int) else if i = 23 ∨ i = 31 ∨ i = 33 ∨ i = 36 then 2 else if 24 ≤ i ∧ i ≤ 28 then 1 else 0) = (bix i : Int) := by
      unfold bix
      by_cases c1 : i = 34
      · subst c1; decide
      by_cases c2 : i = 23 ∨ i = 31 ∨ i = 33 ∨ i = 36
      · have c3 : ¬ (24 ≤ i ∧ i ≤ 28) := by omega
        simp [c1, c2, c3]
      by_cases c3 : 24 ≤ i ∧ i ≤ 28
      · simp [c1, c2, c3]
      · simp [c1, c2, c3]
    refine seq_cut (fun σ' H' => H4 = H' ∧ σ' = [some (.ref a), some (.int i), some (.ref l3), some (.int (bix i)), none]) (fun Z hZ => ?_) ?_
    · refine ⟨_, rfl, rfl, _, rfl, ite2 (fun c => hZ _ _ ⟨rfl, ?_⟩) (fun c => hZ _ _ ⟨rfl, ?_⟩)⟩
      · have c := of_decide_eq_true c
        have c' : i = 34 := by injection c with c; omega
        rw [← fin, if_pos c']
        rfl
      · have c' : ¬ i = 34 := fun z => c (decide_eq_true (by subst z; rfl))
        rw [← fin, if_neg c']
    rintro _ _ ⟨rfl, rfl⟩
    refine ⟨_, rfl, 8, rfl, by decide, by decide, fun D nD => lc_mapr (fun k => .bl (decide (bix i = k ∨ bix i + 4 = k))) nD (by decide) ?_ ?_⟩
    · intro j H5 hj s5 R hR
      refine ⟨rfl, _, rfl, _, rfl, _, rfl, _, _, rfl, rfl, (by show 2 ≤ sizeLine; decide), fun t ht => ⟨t, _, rfl, .inr (SqT.of upd_same), rfl, rfl, ?_⟩⟩
      have ev : inV (.int (0 + (j : Int))) [.int (bix i : Int), .int ((bix i : Int) + 4)] = decide (bix i = j ∨ bix i + 4 = j) := by
        simp only [inV, List.any_cons, List.any_nil, eqV, Bool.or_false]
        rw [Bool.eq_iff_iff]
        simp
        omega
      show R (.bl (inV (.int (0 + (j : Int))) [.int (bix i : Int), .int ((bix i : Int) + 4)])) _
      rw [ev]
      exact hR _ fun b o e => by rw [upd_ne (ne_of_none e ht)]; exact e
    · intro H5 s5 hD
      refine ⟨_, _, dp_bools (SqL.of (s5 _ _ (s4 _ _ e3))), dp_bools (bs := (List.range 8).map fun k => decide (bix i = k ∨ bix i + 4 = k)) (SqL.of (by rw [hD, List.map_map]; rfl)), bools_shaped _, bools_shaped _, ?_⟩
      have same : ([decide (bix i = 0), decide (bix i = 1), decide (bix i = 2)] ++ [decide (bix i = 3), decide (bix i = 0), decide (bix i = 1)] ++ [decide (bix i = 2), decide (bix i = 3)] : List Bool) = (List.range 8).map fun k => decide (bix i = k ∨ bix i + 4 = k) := by
        have hx := bix_lt i
        generalize bix i = y at hx ⊢
        have : y = 0 ∨ y = 1 ∨ y = 2 ∨ y = 3 := by omega
        rcases this with rfl | rfl | rfl | rfl <;> rfl
      rw [← same, bools_eqv]
      exact q _ ((s123.trans s4).trans s5)
end
end N

set_option maxHeartbeats 4000000
/-! try: .. except A as n: .. except B as n: ..  (one name, several clauses) -/
namespace L2
open PySem PySem.Spec PyProof.Rows
abbrev Suite := Addr → Value → Option Addr → TS
/-- the ends of a suite whose error stands in slot i: behind it the slot is empty -/
def endsAs (i : Nat) (D : Ends) : Ends where
  nx := fun τ G => D.nx (τ.set i none) G
  rt := D.rt
  bk := fun τ G => D.bk (τ.set i none) G
  ct := fun τ G => D.ct (τ.set i none) G
/-- what the clauses wish, the first that fits -/
def wAses (K : PySem.W.Frag) (i : Nat) (Wo : WX) (D : Ends) : List (Value × Suite) → WX
  | [] => Wo
  | (c, ts) :: r => fun k d τ G => ∃ b, PySem.W.exmOne K k c = some b ∧ (b = true → ∀ a, G a = none → ts a k d (endsAs i D) (τ.set i (some (.ref a))) G) ∧ (b = false → wAses K i Wo D r k d τ G)
inductive Clauses (X : Cx) (n : Str) : List ExceptHandler → List (Value × Suite) → Prop
  | nil : Clauses X n [] []
  | cons {x : Str} {c : Value} {ts : Suite} {b₀ : Stmt} {bs : List Stmt} {q1 q2 : Pos} {hs : List ExceptHandler} {l : List (Value × Suite)} (names : Names X x c)
      (suite : ∀ (a : Addr) (o : Obj) (k : Value) (d : Option Addr) (pn : List (Addr × Obj)), Zc k d o → (∃ vs, o.data = .fields vs) → PSs (X.suite a ((a, o) :: pn)) (b₀ :: bs) (ts a k d)) (rest : Clauses X n hs l) :
      Clauses X n (.ExceptHandler (some (.Name x q1)) (some n) (b₀ :: bs) q2 :: hs) ((c, ts) :: l)
/-- an error that has landed in the frame of X -/
structure Landed (X : Cx) (pins : List (Addr × Obj)) (τ : St) (G : Hp) (a : Addr) (k : Value) (d : Option Addr) (B : Heap) (sI s' : Shared) : Prop where
  inv : Inv X pins τ G sI
  nb : ∀ b o, sI.heap.get? b = some o → b ∉ frs X.stack → B.get? b = some o
  os : s'.os = sI.os
  ag : AllBare s'.gens
  na : G a = none
section
variable {X : Cx} {n : Str} {i : Nat} {hs : List ExceptHandler} {l : List (Value × Suite)} {Wo : WX} {pins : List (Addr × Obj)} {τ : St} {G : Hp} {a : Addr} {k : Value} {d : Option Addr} {B : Heap} {sI s' : Shared} {D : Ends}
theorem clauses_run (hst : X.stack = X.env :: X.outer) (hfr : X.env.frame = some X.env.locals) (nd : X.N.Nodup) (hi : X.N[i]? = some n) (loc : X.env.kindOf n = some .local) (tk : Takes X Wo) (L : Landed X pins τ G a k d B sI s') (hc : Clauses X n hs l) :
    ∀ {h : Heap}, HandSPX.FlyingZ B (X.env :: X.outer) a (Zc k d) h → sI.heap.UpToSlots h → wAses X.K i Wo D l k d τ G → wpAny (model X.prog X.w) X.A (handleBy (.ref a) X.env hs) (SP X pins D) X.xe { s' with heap := h } := by
  have ok := L.inv.ok
  induction hc with
  | nil =>
    intro h fl up w
    refine wpAny_handleBy_nil ?_
    obtain ⟨_, _, _, o, vs, T, oT, ts, e1, _, e2, e3, _⟩ := id fl
    unfold PySem.passOn
    refine wpAny_bind (wpAny_field e1 e2 e3 ?_)
    rw [if_neg (by simp : ¬ ((Value.ref T == Value.none) = true))]
    have out : wpAny (model X.prog X.w) X.A (setFlight (.ref a) X.env.frame) (fun _ z => wpAny (model X.prog X.w) X.A (throw (.ref a) : Sem Flow) (SP X pins D) X.xe z) X.xe { s' with heap := h } := by
      rw [hfr]
      exact HandSPX.setFlight_upZ fl fun h4 held up4 => wpAny_throw (tk _ _ ⟨a, B, sI, pins, τ, G, k, d, rfl, L.inv, L.nb, up.trans up4, .inr (.inr (by rw [hst]; exact held)), L.na, L.os, L.ag, w⟩)
    first
      | exact wpAny_bind (wpAny_pure (wpAny_bind out))
      | exact wpAny_bind out
  | @cons x c ts b₀ bs q1 q2 hs2 l2 names suite rest ih =>
    intro h fl up w
    obtain ⟨b, hb, yes, no⟩ := w
    obtain ⟨o, vs, e1, z1, e2⟩ := fl.there
    -- the error's object is no frame
    have away : ∀ {h' : Heap} {o' : Obj} {ws : Array Value}, h'.FunFrames B (X.env :: X.outer) → h'.get? a = some o' → o'.data = .fields ws → a ≠ X.env.locals ∧ a ∉ X.fs := fun {h' o' ws} ff e dd => by
      have no' : a ∉ frs (X.env :: X.outer) := fun m => by
        obtain ⟨_, o2, e', nf⟩ := ff.mem m
        rw [e] at e'
        cases e'
        exact nf _ dd
      refine ⟨fun z => no' (List.mem_filterMap.mpr ⟨X.env, List.mem_cons_self, by rw [hfr, z]⟩), fun m => ?_⟩
      obtain ⟨v, hv, q⟩ := List.mem_filterMap.mp m
      exact no' (List.mem_filterMap.mpr ⟨v, List.mem_cons_of_mem _ hv, q⟩)
    have J : Inv X pins τ G { s' with heap := h } := L.inv.landed L.nb fl.1 up L.os L.ag
    obtain ⟨nL, nF⟩ := away fl.2.2.1 e1 e2
    have S := J.suite e1 e2 L.na nL nF
    refine wpAny_handleBy_cons (codeAny_handlers_test ?_) (by intro q; cases q)
    have ty : PySem.W.Looks (model X.prog X.w) h (typeOf (.ref a)) k := fun _ _ _ _ kp q => wpAny_typeOf_ref (kp _ _ e1) (by rw [z1.1]; exact q)
    have fits := PySem.W.exm_one (M := model X.prog X.w) J.kIn ty hb
    have cls : ∀ {Q E : Value → Shared → Prop}, Q c { s' with heap := h } → wpAny (model X.prog X.w) (X.A.mark (some (.ref a))) (eval (.Name x q1) X.env) Q E { s' with heap := h } := fun {Q E} q => by
      obtain ⟨g1, g2, g3 | ⟨g3, g4, g5⟩⟩ := names
      · exact ld_glob (X := X.suite a ((a, o) :: (X.pn ++ pins))) S g1 g3 q g2
      · exact ld_blt (X := X.suite a ((a, o) :: (X.pn ++ pins))) S g1 g3 g4 q g5 g2
    refine cls (fits.here ?_)
    cases b with
    | false =>
      show wpAny _ X.A (handleBy (.ref a) X.env hs2) _ _ _
      exact ih fl up (no rfl)
    | true =>
      refine codeAny_handlers_suite_as (HandSPX.lands_againZ fl fun h4 fl4 up4 => ?_)
      have J4 : Inv X pins τ G { s' with heap := h4 } := L.inv.landed L.nb fl4.1 (up.trans up4) L.os L.ag
      obtain ⟨o4, vs4, f1, z4, f2⟩ := fl4.there
      have S4 := J4.suite f1 f2 L.na nL nF
      refine store_ok (X := X.suite a ((a, o4) :: (X.pn ++ pins))) (v := .ref a) S4 nd hi (.inl loc) rfl (fun s5 S5 => ?_) (.inr loc)
      refine wpAny_mono ((suite a o4 k d (X.pn ++ pins) z4 ⟨_, f2⟩).run [] s5 _ G _ S5 (yes rfl a L.na)) (fun f s6 hsp => ?_) (fun _ _ z => False.elim z)
      have fin : ∀ {τ6 : St} {G6 : Hp} {Q : Shared → Prop}, Inv (X.suite a ((a, o4) :: (X.pn ++ pins))) [] τ6 G6 s6 → (∀ s7, Inv X pins (τ6.set i none) G6 s7 → Q s7) →
          wpAny (model X.prog X.w) X.A (do bindName X.env n .none; unbindBehindTheSuite X.env n q2) (fun _ z => Q z) X.xe s6 := fun {τ6 G6 Q} S6 hq => gone_ok (S6.unsuite ok) nd hi loc hq
      match f, hsp with
      | .next, ⟨_, _, S6, q⟩ => exact fin S6 fun _ J7 => ⟨_, _, J7, q⟩
      | .brk, ⟨_, _, S6, q⟩ => exact fin S6 fun _ J7 => ⟨_, _, J7, q⟩
      | .cont, ⟨_, _, S6, q⟩ => exact fin S6 fun _ J7 => ⟨_, _, J7, q⟩
      | .ret u, ⟨_, _, _, S6, r, q⟩ => exact fin S6 fun _ J7 => ⟨_, _, _, J7, r, q⟩
end
section
variable {X : Cx} {n : Str} {i : Nat} {h₀ : ExceptHandler} {hs : List ExceptHandler} {l : List (Value × Suite)} {Wo : WX} {body : List Stmt} {tb : WX → TS} {pos : Pos}
theorem ps_try_ases (hst : X.stack = X.env :: X.outer) (hfr : X.env.frame = some X.env.locals) (nd : X.N.Nodup) (hi : X.N[i]? = some n) (loc : X.env.kindOf n = some .local) (tk : Takes X Wo)
    (hb : ∀ (W : WX) (pn : List (Addr × Obj)) (xe : Value → Shared → Prop), Takes (X.tr pn xe) W → PassesOwn (model X.prog X.w) X.A X.env xe → PSs (X.tr pn xe) body (tb W)) (hc : Clauses X n (h₀ :: hs) l) :
    PS X (.Try body (h₀ :: hs) [] [] pos) (fun D σ H => tb (wAses X.K i Wo D l) D σ H) := by
  refine ⟨fun pins s σ H D I q => ?_⟩
  have ok := I.ok
  have frames : X.A.frames = some (X.env :: X.outer) := by rw [ok.frames, hst]
  let xe : Value → Shared → Prop := fun e s1 => wpAny (model X.prog X.w) X.A (noteFrame e X.env) (fun _ s2 => wpAny (model X.prog X.w) X.A (setFlight e none) (fun _ s3 => wpAny (model X.prog X.w) X.A (handleBy e X.env (h₀ :: hs)) (SP X pins D) X.xe s3) X.xe s2) X.xe s1
  have caught : Takes (X.tr (X.pn ++ pins) xe) (wAses X.K i Wo D l) := fun u s' z => by
    obtain ⟨a, B, sI, pins', τ, G, k, d, rfl, J', nb, up, sky, na, os, ag, w⟩ := z
    refine Sky.land Zc.steady frames hfr (by rw [← hst]; exact sky) fun h3 fl up3 => ?_
    exact clauses_run hst hfr nd hi loc tk ⟨J'.ofTry ok, nb, os, ag, na⟩ hc fl (up.trans up3) w
  refine wpAny_Try_except (wpAny_mono ((hb _ (X.pn ++ pins) xe caught PassesOwn.looking).run [] s σ H D (I.toTry _) q) (fun f s1 z => ?_) fun _ _ z => z)
  match f, z with
  | .next, ⟨_, _, J, w⟩ => exact wpAny_execs_nil ⟨_, _, J.ofTry ok, w⟩
  | .brk, ⟨_, _, J, w⟩ => exact ⟨_, _, J.ofTry ok, w⟩
  | .cont, ⟨_, _, J, w⟩ => exact ⟨_, _, J.ofTry ok, w⟩
  | .ret u, ⟨_, _, _, J, r, w⟩ => exact ⟨_, _, _, J.ofTry ok, r, w⟩
end
end L2

set_option maxHeartbeats 4000000
/-! the end of a law row whose defs make lambdas: the tables of code objects, where no guard stands -/
namespace L2
open PySem PySem.Spec PyProof.Rows
abbrev emptyTab : Obj := { cls := .none, data := .fields #[] }
/-- an abstract heap with the tables at the addresses of T -/
def withTabs (T : List Addr) (H : Hp) : Hp := fun b => if b ∈ T then some (.tbl #[]) else H b
theorem withTabs_in {T : List Addr} {H : Hp} {b : Addr} (h : b ∈ T) : withTabs T H b = some (.tbl #[]) := if_pos h
theorem withTabs_out {T : List Addr} {H : Hp} {b : Addr} (h : b ∉ T) : withTabs T H b = H b := if_neg h
theorem law_callGT {P : Program} {w : World} {K : PySem.W.Frag} {mg mb : Str → Option Value} {k : Nat} {fa a : Addr} {fd : FuncData} {x : Str} {sp : Sp} {s : Shared} {vs : List Value} {ns : List Int} {cs : List (Addr × Addr)}
    (KX : K.In s.heap) (hns : s.heap.Ns mainGlobals mg) (hb : s.heap.Ns builtinsNs mb) (hbb : ∀ y : Str, y ≠ "__name__" → mb y = bootBuiltins y) (nl : s.heap.NoLimit) (hg : s.gens = #[])
    (tabs : ∀ p ∈ cs, s.heap.get? p.2 = some emptyTab) (loose : ∀ p ∈ cs, K.lookup p.2 = none) (codes : ∀ p ∈ cs, PySem.W.CodeHd s.heap p.1 p.2)
    (bm : ∃ (m : Addr) (ob : Obj), mg "__builtins__" = some (.ref m) ∧ m ≠ builtinsNs ∧ s.heap.get? m = some ob ∧ ob.cls = .type "module" ∧ ob.dict = some builtinsNs ∧ ob.data = .plain)
    (ha : s.heap.get? a = some { cls := .type "list", data := .seq vs.toArray }) (hi : IntsAre vs ns) (hl : ns.length ≤ sizeLine) (hr : Room k callerA)
    (F : ∀ base : Heap, K.In base → base.Ns mainGlobals mg → (∀ p ∈ cs, LamX.TabB base mg p.1 p.2) → FnG P w K mg base CX0 k fa fd [x] sp) (bind : ∀ (s : Shared) (u : Value), BindsTo s fd ⟨[u], []⟩ [(x, u)])
    (hsp : ∀ H : Hp, (∀ p ∈ cs, H p.2 = some (.tbl #[])) → SqL K H a (ns.map V.int) → sp [.ref a] H (fun v _ => v = .bl true) E0) :
    codeAny (model P w) callerA (.call (.ref fa) ⟨[.ref a], []⟩) (fun r s' => r = .ok (.ret (.bool true)) ∧ OldK s.heap s'.heap ∧ s'.os = s.os ∧ AllBare s'.gens) s := by
  obtain ⟨H0, only0, seq0, ok0, at0, out0⟩ := script_told (P := P) (w := w) KX ha hi hl
  let T : List Addr := cs.map (·.2)
  have isT : ∀ {b : Addr}, b ∈ T → s.heap.get? b = some emptyTab := fun hb => by
    obtain ⟨p, hp, e⟩ := List.mem_map.mp hb
    exact e ▸ tabs p hp
  have inT : ∀ {p : Addr × Addr}, p ∈ cs → p.2 ∈ T := fun hp => List.mem_map_of_mem hp
  have aT : a ∉ T := fun z => by
    have q := (isT z).symm.trans ha
    cases q
  let H : Hp := withTabs T H0
  have at_a : H a = H0 a := withTabs_out aT
  have seq : SqL K H a (ns.map V.int) := by
    rcases seq0 with (h | ⟨o, h⟩) | h
    · exact .inl (.inl (at_a.trans h))
    · exact .inl (.inr ⟨o, at_a.trans h⟩)
    · exact .inr h
  have where_ : ∀ b, H b ≠ none → b = a ∨ b ∈ T := fun b h => by
    by_cases z : b ∈ T
    · exact .inr z
    · exact .inl (at0 b (by rw [← withTabs_out (H := H0) z]; exact h))
  have ok : HOk P w H s.heap := fun b u e => by
    by_cases z : b ∈ T
    · have q : some (HO.tbl #[]) = some u := (withTabs_in z).symm.trans e
      cases q
      exact isT z
    · have q : H0 b = some u := (withTabs_out z).symm.trans e
      rcases only0 b with h | ⟨o, xs, h⟩
      · rw [h] at q; cases q
      · rw [h] at q
        cases q
        exact ok0 b _ h
  -- what is neither a list nor a table is in the ground
  have low : ∀ {b : Addr} {o : Obj}, s.heap.get? b = some o → (∀ us n, o.data ≠ .seq us n) → o.data ≠ .fields #[] → (hidT s.heap H).get? b = some o := fun {b o} e n1 n2 => hidT_get e (by
    cases q : H b with
    | none => rfl
    | some u =>
      rcases where_ b (by rw [q]; simp) with z | z
      · subst z
        rw [ha] at e
        cases e
        exact absurd rfl (n1 _ _)
      · rw [isT z] at e
        cases e
        exact absurd rfl n2)
  have dicts : ∀ {b : Addr} {m : Str → Option Value}, s.heap.Ns b m → (hidT s.heap H).Ns b m := fun n => by
    obtain ⟨o, es, ep, e, d, r⟩ := n
    exact ⟨o, es, ep, low e (fun us n z => by rw [d] at z; cases z) (fun z => by rw [d] at z; cases z), d, r⟩
  have hKb : K.In (hidT s.heap H) := fun b o e => hidT_get (KX b o e) (by
    cases q : H b with
    | none => rfl
    | some u =>
      rcases where_ b (by rw [q]; simp) with z | z
      · subst z
        rw [out0 (by rw [← at_a, q]; simp)] at e
        cases e
      · obtain ⟨p, hp, ep⟩ := List.mem_map.mp z
        rw [← ep, loose p hp] at e
        cases e)
  have tb : ∀ p ∈ cs, LamX.TabB (hidT s.heap H) mg p.1 p.2 := fun p hp => by
    refine ⟨?_, ?_, fun z => ?_⟩
    · obtain ⟨o, us, file, tf, fl, tg, inF, text, tt, e1, r1, r2, r3, r⟩ := codes p hp
      exact ⟨o, us, file, tf, fl, tg, inF, text, tt, low e1 (fun _ _ z => by rw [r2] at z; cases z) (fun z => by rw [r2] at z; cases z; simp at r3), r1, r2, r3, r⟩
    · obtain ⟨m, ob, b1, b2, b3, b4, b5, b6⟩ := bm
      refine ⟨m, ob, b1, b2, fun z => ?_, fun z => ?_, low b3 (fun _ _ z => by rw [b6] at z; cases z) (fun z => by rw [b6] at z; cases z), b4, b5, b6⟩
      · obtain ⟨o, es, ep, e, hd, _⟩ := hns
        rw [z, e] at b3
        cases b3
        rw [hd] at b6
        cases b6
      · rw [z, tabs p hp] at b3
        cases b3
        cases b6
    · obtain ⟨o, es, ep, e, hd, _⟩ := hns
      rw [z, tabs p hp] at e
      cases e
      cases hd
  obtain ⟨mc, n1, n2⟩ := nl
  have e0 : Env0 P w K mg (hidT s.heap H) callerA [] s H :=
    ⟨rfl, ⟨hKb, dicts hns, ⟨mb, dicts hb, hbb⟩, ⟨mc, dicts n1, n2⟩⟩, fun b o e => of_hidT e, Nat.le_of_eq (hidT_size _ _), trivial, fun b z => (nomatch z), ok, .of_eq hg⟩
  refine codeAny_mono ((F _ hKb (dicts hns) tb).run callerA [] s H ⟨[.ref a], []⟩ [.ref a] [.ref a] _ _ hr rfl e0 (bind s (.ref a)) (.cons rfl .nil) (hsp H (fun p hp => withTabs_in (inT hp)) seq)) fun r s' h => ?_
  match r, h with
  | .ok (.ret u), ⟨v, H', os, bare, un, ok', rv, (q : v = .bl true)⟩ =>
    subst q
    cases (show u = Value.bool true from rv)
    have stays : ∀ b o, b ∉ T → s.heap.get? b = some o → s'.heap.get? b = some o := fun b o nb e => by
      have q : H b = H0 b := withTabs_out nb
      rcases only0 b with z | ⟨ob, xs, z⟩
      · exact un.keep b o e (q.trans z) (fun m => nomatch m) (fun m => nomatch m)
      · have e1 := (ok b _ (q.trans z)).1
        rw [e] at e1
        cases e1
        exact (ok' b _ (un.frzs b o _ (q.trans z))).1
    have grown : ∀ p ∈ cs, ∃ more : Array Value, s'.heap.get? p.2 = some { cls := .none, data := .fields more } := fun p hp => by
      obtain ⟨more, z⟩ := un.tbls p.2 #[] (withTabs_in (inT hp))
      exact ⟨_, ok' p.2 _ z⟩
    refine ⟨rfl, ⟨fun b o e => ?_, fun b o e => ?_⟩, os, bare⟩
    · by_cases z : b ∈ T
      · obtain ⟨p, hp, ep⟩ := List.mem_map.mp z
        obtain ⟨more, hm⟩ := grown p hp
        subst ep
        rw [tabs p hp] at e
        cases e
        exact .inr (.inl ⟨((codes p hp).tab (tabs p hp)).isCodeTable, rfl, #[], more, rfl, by rw [Array.empty_append]; exact hm⟩)
      · exact .inl (stays b o z e)
    · by_cases z : b ∈ T
      · obtain ⟨p, hp, ep⟩ := List.mem_map.mp z
        obtain ⟨more, hm⟩ := grown p hp
        exact ⟨_, ep ▸ hm⟩
      · exact ⟨o, stays b o z e⟩
/-- what is known of the law's def at the heap behind the top -/
def LawGT (l : PySem.W.OpenLaw) (w : World) (K : PySem.W.Frag) (k n : Nat) (x : Str) (mg : Str → Option Value) (fa : Addr) (h : Heap) : Prop :=
  ∃ (fd : FuncData) (cs : List (Addr × Addr)) (sp : Sp), (∀ p ∈ cs, h.get? p.2 = some emptyTab) ∧ (∀ p ∈ cs, K.lookup p.2 = none) ∧ (∀ p ∈ cs, PySem.W.CodeHd h p.1 p.2) ∧ (∀ (s : Shared) (u : Value), BindsTo s fd ⟨[u], []⟩ [(x, u)]) ∧
    (∀ (H : Hp) (a : Addr) (ns : List Int), ns.length ≤ n → (∀ p ∈ cs, H p.2 = some (.tbl #[])) → SqL K H a (ns.map V.int) → sp [.ref a] H (fun v _ => v = .bl true) E0) ∧
    ∀ base : Heap, K.In base → base.Ns mainGlobals mg → (∀ p ∈ cs, LamX.TabB base mg p.1 p.2) → FnG l.prog w K mg base CX0 k fa fd [x] sp
theorem walk_ofGT {l : PySem.W.OpenLaw} {n k : Nat} {q : Program} {loose : List Str} {XP : (Str → Option Value) → Heap → Prop} {YP : World → Heap → Prop} {d : DefRec} {K : Params → PySem.W.Frag} {x : Str}
    (hn : l.most = some n) (hn2 : n ≤ sizeLine) (hdf : d.params.defaults = []) (hr : Room k callerA) (hY : ∀ (w : World) (h : Heap), YP w h → (K w.params).In h)
    (F : ∀ (w : World) (mg : Str → Option Value) (fa : Addr) (h : Heap), YP w h → (K w.params).In h → h.Ns mainGlobals mg → mg d.name = some (.ref fa) → LawGT l w (K w.params) k n x mg fa h) :
    PySem.W.WalkO q loose XP YP l.row.toRowW d [] (fun f vs => PySem.call f vs) := by
  refine Att.attach_call hn hdf fun w s₀ s mg mb fa o pm cd doc a vs ns G Y ho hd hcd hmg hobj hints hlen hg => ?_
  obtain ⟨fd, cs, sp, h1, h2, h3, h4, h5, h6⟩ := F w mg fa _ Y (hY w _ Y) G.T.g hmg
  exact law_callGT (hY w _ Y) G.T.g G.T.b G.T.builtins G.T.nolimit hg h1 h2 h3 G.T.bmain hobj hints (Nat.le_trans hlen hn2) hr h6 h4 fun H z1 z2 => h5 H a ns hlen z1 z2
end L2

set_option maxHeartbeats 4000000
/-! how long a told value is; repr of a pair whose second may be an empty dict -/
namespace L2
open PySem PySem.Spec PyProof.Rows
mutual
/-- data whose text has a bound by its shape -/
def fine : PyData → Bool
  | .none => true
  | .bool _ => true
  | .int i => decide (i.natAbs.log2 < 1920)
  | .str x => x.cps.all fun c => decide (c < 0x110000)
  | .list xs => fineAll xs
  | .tuple xs => fineAll xs
  | .dict [] => true
  | .dict (_ :: _) => false
def fineAll : List PyData → Bool
  | [] => true
  | x :: xs => fine x && fineAll xs
end
mutual
def wt : PyData → Nat
  | .none => 4
  | .bool _ => 5
  | .int _ => 1921
  | .str x => 10 * x.length + 2
  | .list xs => wtAll xs + 2
  | .tuple xs => wtAll xs + 3
  | .dict _ => 2
def wtAll : List PyData → Nat
  | [] => 0
  | x :: xs => wt x + 2 + wtAll xs
end
theorem textFrom_le : ∀ (ts : List Str) (k : Nat) (acc : Str), (textFrom k acc ts).length ≤ acc.length + piled ts
  | [], k, acc => by simp [textFrom, piled]
  | t :: ts, k, acc => by
    unfold textFrom
    refine Nat.le_trans (textFrom_le ts (k + 1) _) ?_
    rw [piled_cons, strLen_append, strLen_append]
    have : ((if k > 0 then ", " else "" : String) : Str).length ≤ 2 := by split <;> decide
    omega
theorem join_le (ts : List Str) : (Str.join ", " ts).length ≤ piled ts := by
  cases ts with
  | nil => decide
  | cons t r =>
    have := join_length_add (t :: r) (by simp)
    omega
mutual
theorem fine_ok : ∀ d : PyData, fine d = true → d.showable = true ∧ d.shown.length ≤ wt d
  | .none, _ => ⟨rfl, by decide +kernel⟩
  | .bool true, _ => ⟨rfl, by decide +kernel⟩
  | .bool false, _ => ⟨rfl, by decide +kernel⟩
  | .int i, h => ⟨by simpa [fine, PyData.showable] using h, by
      have : i.natAbs.log2 < 1920 := by simpa [fine] using h
      exact int_text_len_1921 this⟩
  | .str x, h => ⟨rfl, by
      refine StrLaws.reprText_len x fun c hc => ?_
      have h' : x.cps.all (fun c => decide (c < 0x110000)) = true := h
      have := (Array.all_eq_true_iff_forall_mem.mp h') c (Array.mem_toList_iff.mp hc)
      have : c < 0x110000 := of_decide_eq_true this
      omega⟩
  | .list xs, h => by
    obtain ⟨a, b⟩ := fineAll_ok xs h
    refine ⟨a, ?_⟩
    show (textFrom 0 "[" (PyData.shownAll xs) ++ "]" : Str).length ≤ wtAll xs + 2
    rw [strLen_append]
    have q := textFrom_le (PyData.shownAll xs) 0 "["
    have l1 : ("[" : Str).length = 1 := rfl
    have l2 : ("]" : Str).length = 1 := rfl
    omega
  | .tuple xs, h => by
    obtain ⟨a, b⟩ := fineAll_ok xs h
    refine ⟨a, ?_⟩
    show (("(" : Str) ++ Str.join ", " (PyData.shownAll xs) ++ (if (PyData.shownAll xs).length == 1 then ",)" else ")" : String)).length ≤ wtAll xs + 3
    rw [strLen_append, strLen_append]
    have q := join_le (PyData.shownAll xs)
    have l1 : ("(" : Str).length = 1 := rfl
    have l2 : ((if (PyData.shownAll xs).length == 1 then ",)" else ")" : String) : Str).length ≤ 2 := by split <;> decide
    omega
  | .dict [], _ => ⟨rfl, by decide +kernel⟩
  | .dict (_ :: _), h => by cases h
theorem fineAll_ok : ∀ ds : List PyData, fineAll ds = true → PyData.showableAll ds = true ∧ piled (PyData.shownAll ds) ≤ wtAll ds
  | [], _ => ⟨rfl, Nat.le_refl _⟩
  | d :: ds, h => by
    obtain ⟨h1, h2⟩ := Bool.and_eq_true_iff.mp (show (fine d && fineAll ds) = true from h)
    obtain ⟨a, b⟩ := fine_ok d h1
    obtain ⟨c, e⟩ := fineAll_ok ds h2
    refine ⟨by simp [PyData.showableAll, a, c], ?_⟩
    show piled (d.shown :: PyData.shownAll ds) ≤ wt d + 2 + wtAll ds
    rw [piled_cons]
    omega
end
/-- data, or an empty dict -/
inductive Oq (K : PySem.W.Frag) (H : Hp) : V → PyData → Prop
  | of {v : V} {d : PyData} (h : Dp K H v d) : Oq K H v d
  | emp {a : Addr} (h : H a = some (.dK [])) : Oq K H (.ref a) (.dict [])
theorem Oq.ext {K : PySem.W.Frag} {H H' : Hp} {v : V} {d : PyData} (e : ∀ {u w}, Dp K H u w → Dp K H' u w) (f : ∀ a, H a = some (.dK []) → H' a = some (.dK [])) : Oq K H v d → Oq K H' v d
  | .of h => .of (e h)
  | .emp h => .emp (f _ h)
section
variable {X : Cx}
theorem emp_reads {pins : List (Addr × Obj)} {σ : St} {H : Hp} {s : Shared} {a : Addr} (I : Inv X pins σ H s) (h : H a = some (.dK [])) : Reads s.heap (.ref a) (.dict []) [a] ∧ sysModules ≠ a := by
  obtain ⟨_, n, vs, r, o, es, ep, e1, e2, e3, _, e5, _⟩ := dk_of I.hok h
  cases r
  have ez : es.toList = [] := by
    cases q : es.toList with
    | nil => rfl
    | cons x xs =>
      rw [q] at e5
      cases e5
  refine ⟨?_, fun z => by subst z; simp at n⟩
  have q := Reads.dict (kvs := []) (as := []) (bs := []) e1 e2.1 e3 (by rw [ez]; exact .nil) (by rw [ez]; exact .nil)
  exact q
/-- repr((text, x)) -/
def rReprP (K : PySem.W.Frag) (B : Nat) : List V → Hp → VK → Prop := fun xs H Q => ∃ (t : Addr) (x : Str) (v : V) (d : PyData), xs = [.ref t] ∧ SqT K H t [.str x, v] ∧ Oq K H v d ∧ fine (.tuple [.str x, d]) = true ∧ d.depth < B ∧ wt (.tuple [.str x, d]) ≤ 1000000 ∧
  Q (.str (PyData.tuple [.str x, d]).shown) H
end
theorem fine_size {d : PyData} (h : fine d = true) (w : wt d ≤ 1000000) : d.shown.length ≤ sizeLine := Nat.le_trans (fine_ok d h).2 (Nat.le_trans w (by decide))
section
variable {X : Cx}
theorem call_reprP {B : Nat} (hc : Calm X.A) (hu : X.A.units + (B + 1) < cLine) : CallR X (.builtin "repr") (rReprP X.K B) := by
  intro pins s σ H xs us Q I r h
  obtain ⟨t, x, v, d, rfl, ht, hd, hf, hB, hw, q⟩ := h
  cases hd with
  | of hd =>
    have e : (PyData.tuple [.str x, d]).depth ≤ B := by
      simp [PyData.depth, PyData.depthAll]
      omega
    exact call_reprD (B := B) hc hu pins s σ H [.ref t] us Q I r ⟨.ref t, .tuple [.str x, d], rfl, .tup ht (.cons (.str _) (.cons hd .nil)), (fine_ok _ hf).1, e, fine_size hf hw, q⟩
  | @emp a ha =>
    obtain ⟨u, rfl, ru⟩ := r.one
    cases (show u = Value.ref t from ru)
    obtain ⟨rd, ns⟩ := emp_reads I ha
    obtain ⟨its, rv, ⟨o, ho, hcl, n, hdt⟩, _⟩ := I.tuple ht
    obtain ⟨tk, w, rfl⟩ : ∃ tk w, its = [Value.str x tk, .ref a] := by
      cases rv with
      | cons r1 r2 =>
        cases r2 with
        | cons r3 r4 =>
          cases r4
          obtain ⟨tk, rfl⟩ := r1
          exact ⟨tk, (), by rw [show _ = Value.ref a from r3]⟩
    have rt : Reads s.heap (.ref t) (.tuple [.str x, .dict []]) ([] ++ ([a] ++ [])) := Reads.tuple ho hcl hdt (.cons (.str _ _) (.cons rd .nil))
    exact repr_of_reads' rt (fine_ok _ hf).1 (fun _ m => ns (by simpa using m)) hc (by have z : (PyData.tuple [.str x, .dict []]).depth = 2 := rfl; have z2 : (PyData.dict []).depth = 1 := rfl; omega) (fun _ _ e => e) (fun h' t tk hk => ⟨.str _, H, I.kept hk, ⟨_, rfl⟩, q⟩) (fine_size hf hw)
end
end L2

set_option maxHeartbeats 4000000
/-! repr of told values, small dicts among them, and of lists of such -/
namespace L2
open PySem PySem.Spec PyProof.Rows
/-- u reads as d, and where a dict is in it, it isn't the table of modules -/
def TR (h : Heap) (u : Value) (d : PyData) : Prop := ∃ as, Reads h u d as ∧ (d.hasDict = true → sysModules ∉ as)
section
variable {P : Program} {w : World} {h : Heap}
theorem tr_all : ∀ {us : List Value} {ds : List PyData}, Paired (TR h) us ds → (∀ d ∈ ds, d.showable = true ∧ d.shown.length ≤ sizeLine) →
    ∃ as bs, ReadsAll h us ds as ∧ ReadAtMost h (PyData.depthAll ds) bs ∧ ReprAllK P w bs h (PyData.depthAll ds) us (PyData.shownAll ds)
  | _, _, .nil, _ => ⟨[], [], .nil, fun _ m => (nomatch m), .nil⟩
  | _, _, @Paired.cons _ _ _ _ d _ ds ⟨a1, r1, n1⟩ t, ok => by
    obtain ⟨a2, b2, r2, m2, k2⟩ := tr_all t fun d m => ok d (List.mem_cons_of_mem _ m)
    obtain ⟨b1, m1, k1⟩ := ReprK.of_reads (prog := P) (w := w) r1 (ok d List.mem_cons_self).1 n1 (ok d List.mem_cons_self).2
    refine ⟨a1 ++ a2, b1 ++ b2, .cons r1 r2, ?_, ?_⟩
    · exact (m1.mono (by simp only [PyData.depthAll]; exact Nat.le_max_left _ _)).append (m2.mono (by simp only [PyData.depthAll]; exact Nat.le_max_right _ _))
    · simp only [PyData.depthAll, PyData.shownAll]
      exact .cons ((k1.more fun b m => List.mem_append_left _ m).level_le (Nat.le_max_left _ _)) (k2.more_le (fun b m => List.mem_append_right _ m) (Nat.le_max_right _ _))
theorem repr_lst {A : Around} {E : Value → Shared → Prop} {Q : Value → Shared → Prop} {s : Shared} {a : Addr} {o : Obj} {n : Nat} {u : Value} {us : List Value} {ds : List PyData} (e : s.heap.get? a = some o) (c : o.cls = .type "list") (dt : o.data = .seq (u :: us).toArray n) (p : Paired (TR s.heap) (u :: us) ds)
    (ok : ∀ d ∈ ds, d.showable = true ∧ d.shown.length ≤ sizeLine) (dp : PyData.depthAll ds ≤ 8) (fits : (listText (PyData.shownAll ds)).length ≤ sizeLine) (hc : Calm A) (hu : A.units + 16 < cLine)
    (q : ∀ h' t tk, (∀ b o, s.heap.get? b = some o → h'.get? b = some o) → Q (.str (listText (PyData.shownAll ds)) t) { s with heap := h', toks := tk }) : wpAny (model P w) A (call (.builtin "repr") [.ref a]) Q E s := by
  obtain ⟨as, bs, r, m, k⟩ := tr_all (P := P) (w := w) p ok
  have na : a ∉ bs := not_mem_of_deeper (.list e c dt r) (by simp only [PyData.depth]; omega) m
  refine call_repr_slot (by omega) ⟨o, e, c⟩ F.slot_list_repr.toG ?_
  refine call_list_reprK e c dt na (by simpa using k.length_eq) (fun i y z => k.item i y (by simpa using z)) (show A.in1.guards = some [] from hc) (fun b _ => Clear.nil b) (by show A.units + 1 + (PyData.depthAll ds + 1) < cLine; omega) (fun _ _ z => z) (fun h' t tk z => ⟨_, _, rfl, q h' t tk z⟩) fits
end
/-- told data, or one of two small dicts -/
inductive Told (K : PySem.W.Frag) (H : Hp) : V → PyData → Prop
  | of {v : V} {d : PyData} (h : Dp K H v d) : Told K H v d
  | emp {a : Addr} (h : H a = some (.dK [])) : Told K H (.ref a) (.dict [])
  | one {a : Addr} {x : Str} {i : Int} (h : H a = some (.dK [(.inr x, .int i)])) : Told K H (.ref a) (.dict [(.str x, .int i)])
section
variable {X : Cx} {pins : List (Addr × Obj)} {σ : St} {H : Hp} {s : Shared}
theorem one_reads {a : Addr} {x : Str} {i : Int} (I : Inv X pins σ H s) (h : H a = some (.dK [(.inr x, .int i)])) : TR s.heap (.ref a) (.dict [(.str x, .int i)]) := by
  obtain ⟨_, n, vs, r, o, es, ep, e1, e2, e3, _, e5, _⟩ := dk_of I.hok h
  cases r with
  | @cons _ z _ zs r1 r2 =>
    cases r2
    obtain ⟨k, v⟩ := z
    obtain ⟨ek, rv⟩ := r1
    cases ek
    cases ee : es.toList with
    | nil => rw [ee] at e5; cases e5
    | cons d r =>
      rw [ee] at e5
      cases e5 with
      | cons h1 h2 h3 =>
        cases h3
        obtain ⟨t, ev⟩ := rv
        refine ⟨a :: ([] ++ []) ++ ([] ++ []), Reads.dict (kvs := [(.str x, .int i)]) (as := [] ++ []) (bs := [] ++ []) e1 e2.1 e3 ?_ ?_, fun _ m => ?_⟩
        · rw [ee]
          rcases keyIs_shape (show keyIs (Sum.inr x) d.key = true from h1) with ⟨i', t', z1, z2⟩ | ⟨y, t', z1, z2⟩
          · cases z1
          · cases z1
            exact .cons (show Reads s.heap d.key (.str x) [] by rw [z2]; exact .str _ _) .nil
        · rw [ee]
          have ev' : d.val = Value.int i t := h2.trans ev
          exact .cons (show Reads s.heap d.val (.int i) [] by rw [ev']; exact .int _ _) .nil
        · have : sysModules = a := by simpa using m
          subst this
          simp at n
theorem Told.tr {v : V} {d : PyData} {u : Value} (I : Inv X pins σ H s) (h : Told X.K H v d) (r : RelV v u) : TR s.heap u d := by
  cases h with
  | of h =>
    obtain ⟨as, q⟩ := Dp.reads I d v u h r
    exact ⟨as, q, fun z => by rw [Dp.noDict d v h] at z; cases z⟩
  | emp h =>
    cases (show u = Value.ref _ from r)
    obtain ⟨q, n⟩ := emp_reads I h
    exact ⟨_, q, fun _ m => n (by simpa using m)⟩
  | one h =>
    cases (show u = Value.ref _ from r)
    exact one_reads I h
end
def okT (d : PyData) : Prop := d.showable = true ∧ d.shown.length ≤ 100 ∧ d.depth ≤ 1
def Th (K : PySem.W.Frag) (H : Hp) (v : V) (d : PyData) : Prop := Told K H v d ∧ okT d
theorem Told.same {K : PySem.W.Frag} {H H' : Hp} {v : V} {d : PyData} (f : ∀ {u w}, Dp K H u w → Dp K H' u w) (s : ∀ a kvs, H a = some (.dK kvs) → H' a = some (.dK kvs)) : Told K H v d → Told K H' v d
  | .of h => .of (f h)
  | .emp h => .emp (s _ _ h)
  | .one h => .one (s _ _ h)
def rReprT (K : PySem.W.Frag) : List V → Hp → VK → Prop := fun xs H Q => ∃ v d, xs = [v] ∧ Th K H v d ∧ Q (.str d.shown) H
def rReprL (K : PySem.W.Frag) : List V → Hp → VK → Prop := fun xs H Q => ∃ a vs ds, xs = [.ref a] ∧ SqL K H a vs ∧ Paired (Th K H) vs ds ∧ vs ≠ [] ∧ vs.length ≤ 100 ∧ Q (.str (listText (PyData.shownAll ds))) H
theorem paired_of_mem {α β : Type} {R : α → β → Prop} {S : β → Prop} (f : ∀ x y, R x y → S y) : ∀ {xs : List α} {ys : List β}, Paired R xs ys → ∀ y ∈ ys, S y
  | _, _, .nil, _, m => nomatch m
  | _, _, .cons r t, y, m => by
    rcases List.mem_cons.mp m with rfl | m
    · exact f _ _ r
    · exact paired_of_mem f t y m
theorem piled_le : ∀ (ds : List PyData), (∀ d ∈ ds, okT d) → piled (PyData.shownAll ds) ≤ 110 * ds.length
  | [], _ => Nat.le_refl _
  | d :: ds, h => by
    have q := piled_le ds fun x m => h x (List.mem_cons_of_mem _ m)
    have z := (h d List.mem_cons_self).2.1
    show piled (d.shown :: PyData.shownAll ds) ≤ 110 * (ds.length + 1)
    rw [piled_cons]
    omega
theorem depth_le : ∀ (ds : List PyData), (∀ d ∈ ds, okT d) → PyData.depthAll ds ≤ 1
  | [], _ => Nat.zero_le _
  | d :: ds, h => by
    simp only [PyData.depthAll]
    exact Nat.max_le.mpr ⟨(h d List.mem_cons_self).2.2, depth_le ds fun x m => h x (List.mem_cons_of_mem _ m)⟩
section
variable {X : Cx} (K : PySem.W.Frag)
theorem call_reprT (hc : Calm X.A) (hu : X.A.units + 64 < cLine) (hK : X.K = K := by rfl) : CallR X (.builtin "repr") (rReprT K) := by
  subst hK
  intro pins s σ H xs us Q I r h
  obtain ⟨v, d, rfl, ⟨hd, h1, h2, h3⟩, q⟩ := h
  obtain ⟨u, rfl, ru⟩ := r.one
  have small : d.shown.length ≤ sizeLine := Nat.le_trans h2 (by decide)
  cases hd with
  | of hd => exact call_reprD (B := 1) hc (by omega) pins s σ H [v] [u] Q I (.cons ru .nil) ⟨v, d, rfl, hd, h1, h3, small, q⟩
  | emp h =>
    cases (show u = Value.ref _ from ru)
    obtain ⟨as, rd, n⟩ := Told.tr I (.emp h) (u := .ref _) rfl
    exact repr_of_reads' rd h1 n hc (by omega) (fun _ _ e => e) (fun h' t tk hk => ⟨.str _, H, I.kept hk, ⟨_, rfl⟩, q⟩) small
  | one h =>
    cases (show u = Value.ref _ from ru)
    obtain ⟨as, rd, n⟩ := Told.tr I (.one h) (u := .ref _) rfl
    exact repr_of_reads' rd h1 n hc (by omega) (fun _ _ e => e) (fun h' t tk hk => ⟨.str _, H, I.kept hk, ⟨_, rfl⟩, q⟩) small
theorem paired_tr {pins : List (Addr × Obj)} {σ : St} {H : Hp} {s : Shared} (I : Inv X pins σ H s) : ∀ {vs : List V} {ds : List PyData} {us : List Value}, Paired (Th X.K H) vs ds → Vals vs us → Paired (TR s.heap) us ds
  | _, _, _, .nil, .nil => .nil
  | _, _, _, .cons p t, .cons r q => .cons (p.1.tr I r) (paired_tr I t q)
theorem call_reprL (hc : Calm X.A) (hu : X.A.units + 64 < cLine) (hK : X.K = K := by rfl) : CallR X (.builtin "repr") (rReprL K) := by
  subst hK
  intro pins s σ H xs us Q I r h
  obtain ⟨a, vs, ds, rfl, hs, p, ne, few, q⟩ := h
  obtain ⟨u, rfl, ru⟩ := r.one
  cases (show u = Value.ref a from ru)
  obtain ⟨its, rv, ⟨o, n, ho, hcl, _, hd⟩, _⟩ := I.list hs
  have pt := paired_tr I p rv
  have ok := paired_of_mem (S := okT) (fun _ _ z => z.2) p
  match its, rv, pt, hd with
  | [], rv, _, _ => cases rv; exact absurd rfl ne
  | u :: us', rv, pt, hd =>
    refine repr_lst ho hcl hd pt (fun d m => ⟨(ok d m).1, Nat.le_trans (ok d m).2.1 (by decide)⟩) (Nat.le_trans (depth_le ds ok) (by decide)) ?_ hc (by omega) (fun h' t tk hk => ⟨.str _, H, I.kept hk, ⟨_, rfl⟩, q⟩)
    show ((textFrom 0 "[" (PyData.shownAll ds) ++ "]" : Str)).length ≤ sizeLine
    rw [strLen_append]
    have z1 := textFrom_le (PyData.shownAll ds) 0 "["
    have z2 := piled_le ds ok
    have l1 : ("[" : Str).length = 1 := rfl
    have l2 : ("]" : Str).length = 1 := rfl
    have l3 : vs.length = ds.length := by
      have : ∀ {xs : List V} {ys : List PyData}, Paired (Th X.K H) xs ys → xs.length = ys.length := by
        intro xs ys h
        induction h with
        | nil => rfl
        | cons _ _ ih => simp [ih]
      exact this p
    refine Nat.le_trans (show _ ≤ 20000 by omega) (by decide)
end
end L2

set_option maxHeartbeats 4000000
namespace N
open PySem L2
/-- a drawn thing: told data as long as what is new since H0 stays -/
def Thing (K : PySem.W.Frag) (H0 H : Hp) (v : V) (d : PyData) : Prop := ∀ H', (∀ b o, H0 b = none → H b = some o → H' b = some o) → Th K H' v d
def spThing (K : PySem.W.Frag) : Sp := fun vs H Q _ => ∃ p : Addr, vs = [.ref p] ∧ Pot H p ∧ ∀ v d H', But p H H' → Pot H' p → Thing K H H' v d → Q v H'
theorem Pot.same {p : Addr} {H H' : Hp} (h : Pot H p) (e : Same H H') : Pot H' p := let ⟨a, b, q, r⟩ := h; ⟨a, b, e _ _ q, r⟩
theorem okT_of {d : PyData} (a : d.showable = true) (b : d.shown.length ≤ 100) (c : d.depth ≤ 1) : okT d := ⟨a, b, c⟩
section
variable {P : Program} {w : World} {K : PySem.W.Frag} {mg : Str → Option Value} {base : Heap} {C S : Nat → Addr}
abbrev s__law_thing : Stmt := top 46
theorem sc__law_thing : FnScope ["_law_pot_here", "_law_some"] ["_law_pot_here"] (defScope s__law_thing) := ⟨rfl, rfl, rfl, by decide +kernel, rfl, by decide +kernel, by decide +kernel⟩
theorem h_law_thing (B : Blts mg) (F : FunAt K mg "_law_thing" "_law_thing" s__law_thing) (h_law_pick : Has P w K mg base "_law_pick" 2 ["_law_pot_here", "_law_some"] (spPick K)) : Has P w K mg base "_law_thing" 3 ["_law_pot_here"] (spThing K) := by
  refine has_of F sc__law_thing (fun _ _ _ _ _ _ us hl => match us, hl with | [_], _ => rfl) (fun vs H Q E h => ?_) (fun f cdv A outer s H vs Q E hr h => ?_)
  · obtain ⟨p, rfl, _⟩ := h; rfl
  · obtain ⟨p, rfl, hp, q⟩ := h
    refine ⟨_, (pss_cons (ps_set (i := 1) sc__law_thing.nd rfl (Or.inl rfl) (pe_lst (pa_cons pe_int (pa_cons (pe_un un_neg pe_int) (pa_cons pe_int (pa_cons (pe_op op_pow pe_int pe_int) (pa_cons pe_bl (pa_cons pe_bl (pa_cons pe_non (pa_cons pe_str (pa_cons pe_str (pa_cons pe_str (pa_cons (pe_tup (pa_cons pe_str (pa_cons pe_str pa_nil))) (pa_cons (pe_tup (pa_cons pe_int (pa_cons pe_non pa_nil))) (pa_cons (pe_lst (pa_cons pe_str pa_nil)) (pa_cons (pe_disp (pps_cons pe_str pe_int pps_nil) (by rfl) (by rfl) (fun z => by cases z) (by decide)) (pa_cons pe_dnewK pa_nil)))))))))))))))))
      (pss_one (ps_ret (pe_has h_law_pick (hr.mono (by decide)) (pa_cons (pv 0) (pa_cons (pv 1) pa_nil)))))), ?_⟩
    refine ⟨_, rfl, _, _, rfl, rfl, ⟨by decide, by decide, by decide⟩, (by show 2 ≤ sizeLine; decide), fun t1 n1 => ⟨(by show 2 ≤ sizeLine; decide), fun t2 n2 => ⟨(by show 1 ≤ sizeLine; decide), fun l1 n3 => ?_⟩⟩⟩
    intro d1 n4
    refine ⟨upd_same, [(.inr "a", .int 1)], rfl, by decide, ?_⟩
    intro d2 n5
    refine ⟨(by show 15 ≤ sizeLine; decide), fun l n6 => ?_⟩
    have s1 : Same H _ := Same.new (o := .tup [.str "", .str "a"]) n1
    have s2 := Same.new (o := .tup [.int 1, .non]) n2
    have s3 := Same.new (o := .lst [.str "a"]) n3
    generalize g1 : upd H t1 (.tup [.str "", .str "a"]) = H1 at s1 s2 s3 n2 n3 n4 n5 n6 ⊢
    generalize g2 : upd H1 t2 (.tup [.int 1, .non]) = H2 at s2 s3 n3 n4 n5 n6 ⊢
    generalize g3 : upd H2 l1 (.lst [.str "a"]) = H3 at s3 n4 n5 n6 ⊢
    have s4 : Same H3 (upd (upd H3 d1 (.dK [])) d1 (.dK (mergeK [] [(.inr "a", .int 1)]))) := fun b o e => by rw [upd_ne (ne_of_none e n4), upd_ne (ne_of_none e n4)]; exact e
    have e4 : (upd (upd H3 d1 (.dK [])) d1 (.dK (mergeK [] [(.inr "a", .int 1)]))) d1 = some (.dK [(.inr "a", .int 1)]) := upd_same
    generalize upd (upd H3 d1 (.dK [])) d1 (.dK (mergeK [] [(.inr "a", .int 1)])) = H4 at s4 e4 n5 n6 ⊢
    have s5 := Same.new (o := .dK []) n5
    have e5 : (upd H4 d2 (.dK [])) d2 = some (.dK []) := upd_same
    generalize upd H4 d2 (.dK []) = H5 at s5 e5 n6 ⊢
    have e1 : H1 t1 = some (.tup [.str "", .str "a"]) := g1 ▸ upd_same
    have e2 : H2 t2 = some (.tup [.int 1, .non]) := g2 ▸ upd_same
    have e3 : H3 l1 = some (.lst [.str "a"]) := g3 ▸ upd_same
    have hp1 := hp.same s1
    have hp2 := hp1.same s2
    have hp3 := hp2.same s3
    have hp4 := hp3.same s4
    have hp5 := hp4.same s5
    have z2 := s1.free n2
    have z3 := (s1.trans s2).free n3
    have z4 := ((s1.trans s2).trans s3).free n4
    have z5 := (((s1.trans s2).trans s3).trans s4).free n5
    have m1 := hp.ne n1
    have m2 := hp1.ne n2
    have m3 := hp2.ne n3
    have m4 := hp3.ne n4
    have m5 := hp4.ne n5
    have m6 := hp5.ne n6
    refine ⟨_, rfl, _, rfl, p, l, _, rfl, hp5.new n6, SqL.of upd_same, m6, (fun z => nomatch z), by show 15 < 1000000; decide, fun v H' hv hp' e => ?_⟩
    have to6 : ∀ b o, H5 b = some o → b ≠ p → H' b = some o := fun b o z n => e b o ((upd_ne (ne_of_none z n6)).trans z) n
    have f1 := to6 t1 _ (s5 _ _ (s4 _ _ (s3 _ _ (s2 _ _ e1)))) m1
    have f2 := to6 t2 _ (s5 _ _ (s4 _ _ (s3 _ _ e2))) m2
    have f3 := to6 l1 _ (s5 _ _ (s4 _ _ e3)) m3
    have f4 := to6 d1 _ (s5 _ _ e4) m4
    have f5 := to6 d2 _ e5 m5
    have bu : But p H H' := fun b o z n => to6 b o (s5 _ _ (s4 _ _ (s3 _ _ (s2 _ _ (s1 _ _ z))))) n
    have flat : ∀ {v d}, (∀ H', Dp K H' v d) → okT d → Thing K H H' v d := fun h o H2 _ => ⟨.of (h H2), o⟩
    simp only [List.mem_cons, List.mem_nil_iff, or_false] at hv
    rcases hv with rfl | rfl | rfl | rfl | rfl | rfl | rfl | rfl | rfl | rfl | rfl | rfl | rfl | rfl | rfl
    · exact q _ _ H' bu hp' (flat (fun _ => .int _) (okT_of rfl (by decide +kernel) (by decide)))
    · exact q _ _ H' bu hp' (flat (fun _ => .int _) (okT_of rfl (by decide +kernel) (by decide)))
    · exact q _ _ H' bu hp' (flat (fun _ => .int _) (okT_of rfl (by decide +kernel) (by decide)))
    · exact q _ _ H' bu hp' (flat (fun _ => .int _) (okT_of rfl (by decide +kernel) (by decide)))
    · exact q _ _ H' bu hp' (flat (fun _ => .bl _) (okT_of rfl (by decide +kernel) (by decide)))
    · exact q _ _ H' bu hp' (flat (fun _ => .bl _) (okT_of rfl (by decide +kernel) (by decide)))
    · exact q _ _ H' bu hp' (flat (fun _ => .non) (okT_of rfl (by decide +kernel) (by decide)))
    · exact q _ _ H' bu hp' (flat (fun _ => .str _) (okT_of rfl (by decide +kernel) (by decide)))
    · exact q _ _ H' bu hp' (flat (fun _ => .str _) (okT_of rfl (by decide +kernel) (by decide)))
    · exact q _ _ H' bu hp' (flat (fun _ => .str _) (okT_of rfl (by decide +kernel) (by decide)))
    · exact q _ _ H' bu hp' fun H2 b => ⟨.of (.tup (SqT.of (b _ _ n1 f1)) (.cons (.str _) (.cons (.str _) .nil))), okT_of rfl (by decide +kernel) (by decide)⟩
    · exact q _ _ H' bu hp' fun H2 b => ⟨.of (.tup (SqT.of (b _ _ z2 f2)) (.cons (.int _) (.cons .non .nil))), okT_of rfl (by decide +kernel) (by decide)⟩
    · exact q _ _ H' bu hp' fun H2 b => ⟨.of (.lst (SqL.of (b _ _ z3 f3)) (.cons (.str _) .nil)), okT_of rfl (by decide +kernel) (by decide)⟩
    · exact q _ _ H' bu hp' fun H2 b => ⟨.one (b _ _ z4 f4), okT_of rfl (by decide +kernel) (by decide)⟩
    · exact q _ _ H' bu hp' fun H2 b => ⟨.emp (b _ _ z5 f5), okT_of rfl (by decide +kernel) (by decide)⟩
end
end N

set_option maxHeartbeats 4000000
/-! such errors raised, and what an except suite asks of one -/
namespace L2
open PySem PySem.Spec PyProof.Rows
/-- isinstance(e, c) in the suite that holds e -/
def rIsX (K : PySem.W.Frag) (a : Addr) (cls : Value) (d : Option Addr) : List V → Hp → VK → Prop := fun xs H Q => ∃ (D dd : Addr) (fs : List (Str × V)) (c : V) (cv : Value) (b : Bool), xs = [.ref a, c] ∧ cls = .ref D ∧ d = some dd ∧ H dd = some (.xd fs) ∧ ExcC K D ∧ ClsV c cv ∧ PySem.W.kitOne K (.ref D) cv = some b ∧ Q (.bl b) H
theorem call_isX {X : Cx} {a : Addr} {oe : Obj} {cls : Value} {d : Option Addr} {pn : List (Addr × Obj)} (hz : Zc cls d oe) (hf : ∃ vs, oe.data = .fields vs) : CallR (X.suite a ((a, oe) :: pn)) (.builtin "isinstance") (rIsX X.K a cls d) := by
  intro pins s σ H xs us Q I r h
  obtain ⟨D, dd, fs, c, cv, b, rfl, rfl, rfl, ed, T, k, ek, q⟩ := h
  obtain ⟨u1, u2, rfl, r1, r2⟩ := vals2 r
  cases (show u1 = Value.ref a from r1)
  cases k.eq r2
  obtain ⟨at_, _⟩ := I.pin (a, oe) (List.mem_append_left _ List.mem_cons_self)
  obtain ⟨vs, ev⟩ := hf
  have hx : ObjOk X.prog X.w H s.heap dd (.xd fs) := I.hok dd _ ed
  obtain ⟨mA, ns, _⟩ := hx
  obtain ⟨od, ho, _⟩ := lookIn_ns ns
  have J : PySem.W.InstAt s.heap a oe D (some od) := ⟨at_, hz.1, by unfold PySem.W.notCls; rw [ev] <;> rfl, by rw [hz.2]; exact ho⟩
  exact PySem.W.kia_one (ExB.kitx_err T) I.kIn ⟨oe, some od, J⟩ ek (fun z => nomatch z) fun tk => ⟨.bl b, H, I.kept (t' := tk) fun _ _ z => z, rfl, q⟩
section
variable {X : Cx} {x f g qual : Str} {C : Addr} {st : Stmt} {p pos pos2 : Pos} {e e2 : Expr} {t : TA} {W : WX}
theorem ErrI.b (T : ErrI X.K X.mg x C st qual) (r : XfC X.K C) : ∃ B n1 n2 bm, ErrB X.K X.mg x C st qual B n1 n2 bm := by
  obtain ⟨B, n1, n2, bm, fI, fd, o, i1, i2, i3⟩ := T.ini
  exact ⟨B, n1, n2, bm, o, r, T.g, fI, fd, i1, i2, i3⟩
theorem ps_raise1 (hc : X.calm = true) (T : ErrI X.K X.mg x C st qual) (r : XfC X.K C) (F : Ini1 X st qual f C) (hr : Room 2 X.A) (tk : Takes X W) (ha : PA X [e] t) (hg : Gl X x := by rfl)
    (hdb : (x == ("__debug__" : Str)) = false := by decide) (he : starEach (e :: []) X.env = (false, eval e X.env) :: starEach [] X.env := by rfl) (hpl : (backTo pos (starEach [] X.env)).any (·.1) = false := by rfl) :
    PS X (.Raise (some (.Call (.Name x p) [e] [] pos)) none pos2) (fun _ σ H => tErr f C t σ H fun c d H' => W c d σ H') := by
  obtain ⟨B, n1, n2, bm, z⟩ := T.b r
  exact ps_raiseB hc z (fun fI fd h => ⟨(F fI fd h).1, fun s us _ hl => match us, hl with | [me, u], _ => (F fI fd h).2.1 s me u⟩) hr tk ha hg hdb he hpl
theorem ps_raise2 (hc : X.calm = true) (T : ErrI X.K X.mg x C st qual) (r : XfC X.K C) (F : Ini2 X st qual f g C) (hr : Room 2 X.A) (tk : Takes X W) (ha : PA X [e, e2] t) (hg : Gl X x := by rfl)
    (hdb : (x == ("__debug__" : Str)) = false := by decide) (he : starEach (e :: [e2]) X.env = (false, eval e X.env) :: starEach [e2] X.env := by rfl) (hpl : (backTo pos (starEach [e2] X.env)).any (·.1) = false := by rfl) :
    PS X (.Raise (some (.Call (.Name x p) [e, e2] [] pos)) none pos2) (fun _ σ H => tErr2 f g C t σ H fun c d H' => W c d σ H') := by
  obtain ⟨B, n1, n2, bm, z⟩ := T.b r
  exact ps_raiseB2 hc z (fun fI fd h => ⟨(F fI fd h).1, fun s us _ hl => match us, hl with | [me, u, v], _ => (F fI fd h).2.1 s me u v⟩) hr tk ha hg hdb he hpl
end
/-- a try whose one clause notes isinstance(e, y) behind a list -/
theorem ps_try_note {X : Cx} {x n l y : Str} {c : Addr} {i j : Nat} {body : List Stmt} {np p1 p2 p3 p4 p5 p6 p7 p8 pos pos' : Pos} {tb : WX → TS} {E : Addr} (hs : X.stack = X.env :: X.outer) (hf : X.env.frame = some X.env.locals) (hN : X.N.Nodup) (hi : X.N[i]? = some n) (hln : X.env.kindOf n = some .local) (hc : Names X x (.ref c))
    (hb : ∀ (W : WX) (pn : List (Addr × Obj)) (xe : Value → Shared → Prop), Takes (X.tr pn xe) W → PassesOwn (model X.prog X.w) X.A X.env xe → PSs (X.tr pn xe) body (tb W))
    (vn : Vis X.env.scope n) (dn : (n == ("__debug__" : Str)) = false) (dn2 : (n == ("__classdict__" : Str)) = false) (hj : X.N[j]? = some l) (vl : Vis X.env.scope l) (dl : (l == ("__debug__" : Str)) = false) (dl2 : (l == ("__classdict__" : Str)) = false) (gy : Gl X y) (my : X.mg y = some (.ref E)) (dy : (y == ("__debug__" : Str)) = false)
    (gi : Gl X "isinstance") (mi : X.mg "isinstance" = none)
    (hline : (p2.endLine == p7.line) = true) (hq : ∀ a oe pn, swapsWith (.Call (.Attribute (.Name l p1) "append" p2) [.Call (.Name "isinstance" p3) [.Name n p4, .Name y p5] [] p6] [] p7) none p8.line (X.suite a ((a, oe) :: pn)).env = pure false) :
    PS X (.Try body [.ExceptHandler (some (.Name x np)) (some n) [.Expr (.Call (.Attribute (.Name l p1) "append" p2) [.Call (.Name "isinstance" p3) [.Name n p4, .Name y p5] [] p6] [] p7) p8] pos'] [] [] pos)
      (fun D σ H => tb (wAs X.K (.ref c) i (fun a cls d => tDrop (tBM X.K "list" rAppend (tVar j) (tCons (tCB (rIsX X.K a cls d) (tCons (tVar i) (tCons (tC (.ref E)) tNil))) tNil))) (fun _ _ _ _ => False) D) D σ H) := by
  refine ps_try_as hs hf hN hi hln hc takes0 hb fun a oe cls d pn hz hf => ?_
  exact pss_one (ps_expr (pe_bm PySem.F.plainAttrs_list PySem.F.slot_list_append PySem.F.type_list_append mt_append (pe_var hj vl dl dl2) (pa_cons (pe_callB (call_isX hz hf) gi mi (by decide +kernel) (pa_cons (pe_var hi vn dn dn2) (pa_cons (pe_glob gy my rfl dy) pa_nil))) pa_nil) (hline := hline)) (hq a oe pn))
end L2

set_option maxHeartbeats 4000000
namespace N
open PySem L2
def spRaised : Sp := fun vs H Q _ => ∃ v u : V, vs = [v, u] ∧ ∀ H', Same H H' → Q (.bl true) H'
theorem yes_self {K : PySem.W.Frag} {C : Addr} : PySem.W.kitOne K (.ref C) (.ref C) = some true := by
  unfold PySem.W.kitOne
  rw [if_pos (by simp)]
section
variable {P : Program} {w : World} {K : PySem.W.Frag} {mg : Str → Option Value} {base : Heap} {C S : Nat → Addr}
abbrev s__law_raised : Stmt := top 54
theorem sc__law_raised : FnScope ["_law_one", "_law_two", "_law_found", "e"] ["_law_one", "_law_two"] (defScope s__law_raised) := ⟨rfl, rfl, rfl, by decide +kernel, rfl, by decide +kernel, by decide +kernel⟩
theorem h_law_raised (B : Blts mg) (T : Tx K mg C S) (F : FunAt K mg "_law_raised" "_law_raised" s__law_raised) : Has P w K mg base "_law_raised" 3 ["_law_one", "_law_two"] spRaised := by
  refine has_of F sc__law_raised (fun _ _ _ _ _ _ us hl => match us, hl with | [_, _], _ => rfl) (fun vs H Q E h => ?_) (fun f cdv A outer s H vs Q E hr h => ?_)
  · obtain ⟨v, u, rfl, _⟩ := h; rfl
  · obtain ⟨v, u, rfl, q⟩ := h
    refine ⟨_, (pss_cons (ps_set (i := 2) sc__law_raised.nd rfl (Or.inl rfl) (pe_lst pa_nil))
      (pss_cons (ps_try_note (i := 3) (j := 2) (E := C 32) rfl rfl sc__law_raised.nd rfl rfl ⟨rfl, by decide, .inl T.b0⟩ (fun W pn xe tk _ => pss_one (ps_raise2 rfl T.e32.1 (T.cl.xf 32 (by decide)) (ini_InvalidBook T.e32) (hr.mono (by decide)) tk (pa_cons (pv 0) (pa_cons (pv 1) pa_nil)))) (Or.inl rfl) (by decide) (by decide) rfl (Or.inl rfl) (by decide) (by decide) rfl T.e32.1.g (by decide) rfl B.n_isinstance (by rfl) (fun _ _ _ => rfl))
      (pss_cons (ps_try_note (i := 3) (j := 2) (E := C 27) rfl rfl sc__law_raised.nd rfl rfl ⟨rfl, by decide, .inl T.b1⟩ (fun W pn xe tk _ => pss_one (ps_raise1 rfl T.e27.1 (T.cl.xf 27 (by decide)) (ini_UnknownPattern T.e27) (hr.mono (by decide)) tk (pa_cons (pv 0) pa_nil))) (Or.inl rfl) (by decide) (by decide) rfl (Or.inl rfl) (by decide) (by decide) rfl T.e27.1.g (by decide) rfl B.n_isinstance (by rfl) (fun _ _ _ => rfl))
      (pss_cons (ps_try_note (i := 3) (j := 2) (E := C 33) rfl rfl sc__law_raised.nd rfl rfl ⟨rfl, by decide, .inl T.b2⟩ (fun W pn xe tk _ => pss_one (ps_raise2 rfl T.e33.1 (T.cl.xf 33 (by decide)) (ini_NotFitting T.e33) (hr.mono (by decide)) tk (pa_cons (pv 0) (pa_cons (pv 1) pa_nil)))) (Or.inl rfl) (by decide) (by decide) rfl (Or.inl rfl) (by decide) (by decide) rfl T.e33.1.g (by decide) rfl B.n_isinstance (by rfl) (fun _ _ _ => rfl))
      (pss_cons (ps_try_note (i := 3) (j := 2) (E := C 34) rfl rfl sc__law_raised.nd rfl rfl ⟨rfl, by decide, .inl T.b3⟩ (fun W pn xe tk _ => pss_one (ps_raise2 rfl T.e34.1 (T.cl.xf 34 (by decide)) (ini_TooMany T.e34) (hr.mono (by decide)) tk (pa_cons (pv 0) (pa_cons (pv 1) pa_nil)))) (Or.inl rfl) (by decide) (by decide) rfl (Or.inl rfl) (by decide) (by decide) rfl T.e34.1.g (by decide) rfl B.n_isinstance (by rfl) (fun _ _ _ => rfl))
      (pss_one (ps_ret (pe_cmpR (op_eqD hr.units) (pv 2) (pe_op op_rep (pe_lst (pa_cons pe_bl pa_nil)) pe_int) (by first | exact nomark _ | rfl))))))))), ?_⟩
    refine seq_set ⟨Nat.zero_le _, fun l nl => ?_⟩
    have s0 := Same.new (o := .lst []) nl
    have e0 : (upd H l (.lst [])) l = some (.lst (List.replicate 0 (.bl true))) := upd_same
    generalize upd H l (.lst []) = H0 at s0 e0 ⊢
    have go : ∀ {k : Nat} {G G1 G2 : Hp} {d : Addr} {fs : List (Str × V)}, Same H G → G l = some (.lst (List.replicate k (.bl true))) → G1 = upd G d (.xd fs) → G d = none → G2 = upd G1 l (.lst (List.replicate k (.bl true) ++ [.bl true])) → Same H G2 ∧ G2 l = some (.lst (List.replicate (k + 1) (.bl true))) := by
      rintro k G G1 G2 d fs s e rfl nd rfl
      refine ⟨fun b o z => ?_, by rw [upd_same, List.replicate_succ']⟩
      have y : b ≠ l := ne_of_none z nl
      rw [upd_ne y, upd_ne (ne_of_none (s _ _ z) nd)]
      exact s _ _ z
    have at1 : ∀ {k : Nat} {G : Hp} {d : Addr} {fs : List (Str × V)}, G l = some (.lst (List.replicate k (.bl true))) → G d = none → (upd G d (.xd fs)) l = some (.lst (List.replicate k (.bl true))) := fun e nd => by rw [upd_ne (ne_of_none e nd)]; exact e
    refine seq_cut (fun σ' H' => σ' = [some v, some u, some (.ref l), none] ∧ Same H H' ∧ H' l = some (.lst (List.replicate 1 (.bl true)))) (fun Z hZ => ?_) ?_
    · refine ⟨_, rfl, _, rfl, v, u, rfl, fun d nd => ⟨true, T.cl.exm (i := 32) (b := 0) (by decide) (by decide), fun _ a na => ?_, fun q => nomatch q⟩⟩
      refine ⟨_, rfl, .inl ⟨rfl, _, SqL.of (at1 e0 nd)⟩, _, rfl, C 32, d, _, _, _, true, rfl, rfl, rfl, upd_same, T.cl.ex 32 (by decide), .own _, yes_self, l, _, _, rfl, rfl, at1 e0 nd, (by show 0 < sizeLine; decide), hZ _ _ ⟨rfl, go s0 e0 rfl nd rfl⟩⟩
    rintro _ H1 ⟨rfl, s1, e1⟩
    refine seq_cut (fun σ' H' => σ' = [some v, some u, some (.ref l), none] ∧ Same H H' ∧ H' l = some (.lst (List.replicate 2 (.bl true)))) (fun Z hZ => ?_) ?_
    · refine ⟨_, rfl, v, rfl, fun d nd => ⟨true, T.cl.exm (i := 27) (b := 1) (by decide) (by decide), fun _ a na => ?_, fun q => nomatch q⟩⟩
      refine ⟨_, rfl, .inl ⟨rfl, _, SqL.of (at1 e1 nd)⟩, _, rfl, C 27, d, _, _, _, true, rfl, rfl, rfl, upd_same, T.cl.ex 27 (by decide), .own _, yes_self, l, _, _, rfl, rfl, at1 e1 nd, (by show 1 < sizeLine; decide), hZ _ _ ⟨rfl, go s1 e1 rfl nd rfl⟩⟩
    rintro _ H2 ⟨rfl, s2, e2⟩
    refine seq_cut (fun σ' H' => σ' = [some v, some u, some (.ref l), none] ∧ Same H H' ∧ H' l = some (.lst (List.replicate 3 (.bl true)))) (fun Z hZ => ?_) ?_
    · refine ⟨_, rfl, _, rfl, v, u, rfl, fun d nd => ⟨true, T.cl.exm (i := 33) (b := 2) (by decide) (by decide), fun _ a na => ?_, fun q => nomatch q⟩⟩
      refine ⟨_, rfl, .inl ⟨rfl, _, SqL.of (at1 e2 nd)⟩, _, rfl, C 33, d, _, _, _, true, rfl, rfl, rfl, upd_same, T.cl.ex 33 (by decide), .own _, yes_self, l, _, _, rfl, rfl, at1 e2 nd, (by show 2 < sizeLine; decide), hZ _ _ ⟨rfl, go s2 e2 rfl nd rfl⟩⟩
    rintro _ H3 ⟨rfl, s3, e3⟩
    refine seq_cut (fun σ' H' => σ' = [some v, some u, some (.ref l), none] ∧ Same H H' ∧ H' l = some (.lst (List.replicate 4 (.bl true)))) (fun Z hZ => ?_) ?_
    · refine ⟨_, rfl, _, rfl, v, u, rfl, fun d nd => ⟨true, T.cl.exm (i := 34) (b := 3) (by decide) (by decide), fun _ a na => ?_, fun q => nomatch q⟩⟩
      refine ⟨_, rfl, .inl ⟨rfl, _, SqL.of (at1 e3 nd)⟩, _, rfl, C 34, d, _, _, _, true, rfl, rfl, rfl, upd_same, T.cl.ex 34 (by decide), .own _, yes_self, l, _, _, rfl, rfl, at1 e3 nd, (by show 3 < sizeLine; decide), hZ _ _ ⟨rfl, go s3 e3 rfl nd rfl⟩⟩
    rintro _ H4 ⟨rfl, s4, e4⟩
    refine ⟨_, rfl, (by show 1 ≤ sizeLine; decide), fun l2 n2 => ⟨l2, 4, _, rfl, rfl, upd_same, by decide, by decide, (by show 1 * 4 ≤ sizeLine; decide), fun l3 n3 => ?_⟩⟩
    have s5 : Same H4 (upd (upd H4 l2 (.lst [.bl true])) l3 (.lst (List.replicate (4 : Int).toNat [V.bl true]).flatten)) := (Same.new n2).trans (Same.new n3)
    refine ⟨_, _, dp_bools (bs := [true, true, true, true]) (SqL.of (s5 _ _ e4)), dp_bools (bs := [true, true, true, true]) (SqL.of upd_same), bools_shaped _, bools_shaped _, ?_⟩
    rw [bools_eqv]
    exact q _ (s4.trans s5)
end
end N

set_option maxHeartbeats 4000000
namespace N
open PySem L2
theorem at_mem {σ : St} : ∀ {ds : List Mk1} {es : List (Addr × List (Str × V))}, atAll σ ds = some es → ∀ e ∈ es, ∃ d ∈ ds, d.at σ = some e
  | [], _, h, e, m => by cases h; cases m
  | d :: ds, _, h, e, m => by
    obtain ⟨x, hx, h⟩ := Option.bind_eq_some_iff.mp h
    obtain ⟨xs, hxs, rfl⟩ := Option.map_eq_some_iff.mp h
    rcases List.mem_cons.mp m with rfl | m
    · exact ⟨d, List.mem_cons_self, hx⟩
    · obtain ⟨d', m', q⟩ := at_mem hxs e m
      exact ⟨d', List.mem_cons_of_mem _ m', q⟩
theorem paired_mem {α β : Type} {R : α → β → Prop} : ∀ {xs : List α} {ys : List β}, Paired R xs ys → ∀ x ∈ xs, ∃ y ∈ ys, R x y
  | _, _, .nil, _, m => nomatch m
  | _, _, .cons r t, x, m => by
    rcases List.mem_cons.mp m with rfl | m
    · exact ⟨_, List.mem_cons_self, r⟩
    · obtain ⟨y, my, q⟩ := paired_mem t x m
      exact ⟨y, List.mem_cons_of_mem _ my, q⟩
theorem errs_cons {H : Hp} {ws : List V} {e : Addr × List (Str × V)} {es : List (Addr × List (Str × V))} (h : ErrsV H ws (e :: es)) : ∃ b ws', ws = .ref b :: ws' ∧ ErrAt H b e.1 e.2 ∧ ErrsV H ws' es := by
  cases h with
  | cons r t =>
    obtain ⟨b, rfl, q⟩ := r
    exact ⟨b, _, rfl, q, t⟩
theorem errs_nil {H : Hp} {ws : List V} (h : ErrsV H ws []) : ws = [] := by
  cases h
  rfl
/-- all of them are of the classes from lo on, and hold v as f -/
def AllF (C : Nat → Addr) (H : Hp) (ws : List V) (lo n : Nat) (f : Str) (v : V) : Prop := ∀ x ∈ ws, ∃ a j, x = .ref a ∧ lo ≤ j ∧ j < lo + n ∧ ErrAt H a (C j) [(f, v)]
theorem allF_of {C : Nat → Addr} {H : Hp} {ws : List V} {lo n : Nat} {f : Str} {v : V} {es : List (Addr × List (Str × V))} (p : ErrsV H ws es) (h : atAll [some v] (twice (fun i => .one (C i) f 0) lo n) = some es) : AllF C H ws lo n f v := by
  intro x m
  obtain ⟨e, me, a, rfl, q⟩ := paired_mem p x m
  obtain ⟨d, md, hd⟩ := at_mem h e me
  simp only [twice, List.mem_flatten, List.mem_map, List.mem_range] at md
  obtain ⟨l, ⟨i, hi, rfl⟩, ml⟩ := md
  have ed : d = .one (C (lo + i)) f 0 := by simpa using ml
  subst ed
  cases (show some (C (lo + i), [(f, v)]) = some e from hd)
  exact ⟨a, lo + i, rfl, by omega, by omega, q⟩
theorem AllF.same {C : Nat → Addr} {H H' : Hp} {ws : List V} {lo n : Nat} {f : Str} {v : V} (h : AllF C H ws lo n f v) (s : Same H H') : AllF C H' ws lo n f v := fun x m => let ⟨a, j, e, l1, l2, q⟩ := h x m; ⟨a, j, e, l1, l2, q.same s⟩
theorem Same.dp {K : PySem.W.Frag} {H H' : Hp} (s : Same H H') {v : V} {d : PyData} (h : Dp K H v d) : Dp K H' v d := by
  refine h.rec (motive_1 := fun v d _ => Dp K H' v d) (motive_2 := fun vs ds _ => DpAll K H' vs ds) .non .bl .int .str ?_ ?_ .nil (fun _ _ a b => .cons a b)
  · intro a xs ds e _ ih
    refine .lst ?_ ih
    rcases e with (e | ⟨o, e⟩) | e
    · exact .inl (.inl (s _ _ e))
    · exact .inl (.inr ⟨o, s _ _ e⟩)
    · exact .inr e
  · intro a xs ds e _ ih
    exact .tup (s.st e) ih
theorem same_th {K : PySem.W.Frag} {H H' : Hp} {v : V} {d : PyData} (h : Th K H v d) (s : Same H H') : Th K H' v d := ⟨h.1.same (fun z => Same.dp s z) (fun _ _ e => s _ _ e), h.2⟩
def spFields (K : PySem.W.Frag) (C : Nat → Addr) : Sp := fun vs H Q _ => ∃ (a1 a2 a3 a4 t : Addr) (v u : V) (d1 d2 : PyData) (w1 w2 w3 w4 : List V) (es4 : List (Addr × List (Str × V))), vs = [.ref a1, .ref a2, .ref a3, .ref a4, .ref t] ∧
  H a1 = some (.lst w1) ∧ w1.length < 1000000 ∧ AllF C H w1 0 14 "value" v ∧ H a2 = some (.lst w2) ∧ w2.length < 1000000 ∧ AllF C H w2 14 10 "position" v ∧ H a3 = some (.lst w3) ∧ w3.length < 1000000 ∧ AllF C H w3 24 4 "name" v ∧
  H a4 = some (.lst w4) ∧ ErrsV H w4 es4 ∧ atAll [some v, some u] (othersMk C) = some es4 ∧ H t = some (.tup [v, u]) ∧ Th K H v d1 ∧ Th K H u d2 ∧ ∀ H', Same H H' → Q (.bl true) H'
theorem all_loop {K : PySem.W.Frag} {H : Hp} {D : Ends} {A R : TS} {i : Nat} {a : Addr} {ws : List V} {f : Str} {v : V} {d : PyData} {x0 x1 x2 x3 x4 x6 x7 x8 : Option V} (hs : slotV [x0, x1, x2, x3, x4, some v, x6, x7, x8] i = some (.ref a)) (ea : H a = some (.lst ws)) (z : ws.length < 1000000)
    (h : ∀ x ∈ ws, ∃ b D, x = .ref b ∧ XfC K D ∧ PySem.W.findIn K (.ref D) f = some none ∧ ErrAt H b D [(f, v)]) (th : Th K H v d) (k : ∀ H', Same H H' → R D [x0, x1, x2, x3, x4, some v, x6, x7, x8] H') :
    tSeq (tIfS (tNot (tB (tCB (rAll K) (tCons (tLc (iList K (tVar i)) (gName 7) tYes (tOp rEq (tCB (rReprT K) (tCons (tXh K f (tVar 7)) tNil)) (tCB (rReprT K) (tCons (tVar 5) tNil))) (List.map (fun x => x.snd) [(("_law_made" : Str), 7)])) tNil)))) A tNext) R D [x0, x1, x2, x3, x4, some v, x6, x7, x8] H := by
  refine ⟨_, slot_at hs, a, rfl, ⟨_, SqL.of ea⟩, fun L nL => lc_map (walk_list (K := K) (a := a) (xs := ws)) (fun _ => .bl true) nL z (fun H s => SqL.of (s _ _ ea)) ?_ ?_⟩
  · rintro j x H1 H2 hj s ⟨rfl, hx⟩ R hR
    obtain ⟨b, D, rfl, xf, no, e⟩ := h x (List.mem_of_getElem? hx)
    refine ⟨rfl, _, rfl, b, D, _, v, rfl, xf, no, e.same s, lk_hd, v, d, rfl, same_th th s, v, rfl, v, d, rfl, same_th th s, rfl, ?_⟩
    have y : decide (V.str d.shown = V.str d.shown) = true := decide_eq_true rfl
    rw [y]
    exact hR _ (Same.refl _)
  · intro H1 s e
    refine ⟨L, (List.range ws.length).map fun _ => true, rfl, SqL.of (by rw [e, List.map_map]; rfl), _, rfl, ?_⟩
    have y : ((List.range ws.length).map fun _ => true).all id = true := by simp
    rw [y]
    exact k H1 s
theorem ne_str {z : Str} {A B : Prop} (h : B) : if (!decide (V.str z = V.str z)) = true then A else B := by
  rw [show decide (V.str z = V.str z) = true from decide_eq_true rfl]
  exact h
theorem eq_str {z : Str} {R : V → Hp → Prop} {H : Hp} (h : R (.bl true) H) : R (.bl (decide (V.str z = V.str z))) H := by
  rw [show decide (V.str z = V.str z) = true from decide_eq_true rfl]
  exact h
theorem two_body {K : PySem.W.Frag} {H : Hp} {b E : Addr} {f g : Str} {v u : V} {d1 d2 : PyData} {R : V → Hp → Prop} {σ : St} (h7 : σ[7]? = some (some (.ref b))) (h5 : σ[5]? = some (some v)) (h6 : σ[6]? = some (some u)) (xf : XfC K E) (nf : PySem.W.findIn K (.ref E) f = some none) (ng : PySem.W.findIn K (.ref E) g = some none)
    (e : ErrAt H b E [(g, u), (f, v)]) (fg : ¬ f = g) (th1 : Th K H v d1) (th2 : Th K H u d2) (hR : ∀ H4, Same H H4 → R (.bl true) H4) :
    tOp rEq (tCB (rReprL K) (tCons (tLst (tCons (tXh K f (tVar 7)) (tCons (tXh K g (tVar 7)) tNil))) tNil)) (tCB (rReprL K) (tCons (tLst (tCons (tVar 5) (tCons (tVar 6) tNil))) tNil)) σ H R := by
  refine ⟨_, h7, b, E, _, v, rfl, xf, nf, e, lk_tl fg lk_hd, _, h7, b, E, _, u, rfl, xf, ng, e, lk_hd, (by show 2 ≤ sizeLine; decide), fun l1 n1 => ?_⟩
  have s1 := Same.new (o := .lst [v, u]) n1
  refine ⟨l1, _, [d1, d2], rfl, SqL.of upd_same, .cons (same_th th1 s1) (.cons (same_th th2 s1) .nil), (fun z => nomatch z), (by show 2 ≤ 100; decide), ?_⟩
  refine ⟨_, h5, _, h6, (by show 2 ≤ sizeLine; decide), fun l2 n2 => ?_⟩
  have s2 := s1.trans (Same.new (o := .lst [v, u]) n2)
  refine ⟨l2, _, [d1, d2], rfl, SqL.of upd_same, .cons (same_th th1 s2) (.cons (same_th th2 s2) .nil), (fun z => nomatch z), (by show 2 ≤ 100; decide), rfl, ?_⟩
  exact eq_str (hR _ s2)
theorem two_all {K : PySem.W.Frag} {H : Hp} {Q : VK} {i j : Int} {a x y E : Addr} {w4 : List V} {f g : Str} {v u : V} {d1 d2 : PyData} {x0 x1 x2 x4 x7 x8 : Option V} (ea : H a = some (.lst w4)) (cut : cutV w4 (some i) (some j) = [.ref x, .ref y])
    (xf : XfC K E) (nf : PySem.W.findIn K (.ref E) f = some none) (ng : PySem.W.findIn K (.ref E) g = some none) (ex : ErrAt H x E [(g, u), (f, v)]) (ey : ErrAt H y E [(g, u), (f, v)]) (fg : ¬ f = g) (th1 : Th K H v d1) (th2 : Th K H u d2) (k : ∀ H', Same H H' → Q (.bl true) H') :
    tCB (rAll K) (tCons (tLc (iList K (tSl (rSlL K) (tVar 3) (tPart (tC (.int i))) (tPart (tC (.int j))))) (gName 7) tYes (tOp rEq (tCB (rReprL K) (tCons (tLst (tCons (tXh K f (tVar 7)) (tCons (tXh K g (tVar 7)) tNil))) tNil)) (tCB (rReprL K) (tCons (tLst (tCons (tVar 5) (tCons (tVar 6) tNil))) tNil)))
      (List.map (fun x => x.snd) [(("_law_made" : Str), 7)])) tNil) [x0, x1, x2, some (.ref a), x4, some v, some u, x7, x8] H Q := by
  refine ⟨_, rfl, i, rfl, j, rfl, a, w4, rfl, SqL.of ea, fun p np => ⟨p, rfl, ⟨[.ref x, .ref y], SqL.of (by rw [upd_same, cut])⟩, fun L nL => lc_map (walk_list (K := K) (a := p) (xs := [.ref x, .ref y])) (fun _ => .bl true) nL (by show 2 < 1000000; decide) (fun H s => SqL.of (s _ _ (by rw [upd_same, cut]))) ?_ ?_⟩⟩
  · rintro n z H1 H2 hn s ⟨rfl, hz⟩ R hR
    have s' := (Same.new (o := .lst (cutV w4 (some i) (some j))) np).trans s
    have hz' : z = .ref x ∨ z = .ref y := by
      have := List.mem_of_getElem? hz
      simpa using this
    rcases hz' with rfl | rfl
    · exact ⟨rfl, two_body rfl rfl rfl xf nf ng (ex.same s') fg (same_th th1 s') (same_th th2 s') hR⟩
    · exact ⟨rfl, two_body rfl rfl rfl xf nf ng (ey.same s') fg (same_th th1 s') (same_th th2 s') hR⟩
  · intro H1 s e
    refine ⟨L, [true, true], rfl, SqL.of e, ?_⟩
    exact k H1 ((Same.new (o := .lst (cutV w4 (some i) (some j))) np).trans s)
section
variable {P : Program} {w : World} {K : PySem.W.Frag} {mg : Str → Option Value} {base : Heap} {C S : Nat → Addr}
theorem no_value (T : Tx K mg C S) : ∀ j, 0 ≤ j → j < 14 → PySem.W.findIn K (.ref (C j)) "value" = some none := by
  intro j h1 h2
  have : j = 0 ∨ j = 1 ∨ j = 2 ∨ j = 3 ∨ j = 4 ∨ j = 5 ∨ j = 6 ∨ j = 7 ∨ j = 8 ∨ j = 9 ∨ j = 10 ∨ j = 11 ∨ j = 12 ∨ j = 13 := by omega
  rcases this with rfl | rfl | rfl | rfl | rfl | rfl | rfl | rfl | rfl | rfl | rfl | rfl | rfl | rfl
  · exact T.e0.2 _ (by simp)
  · exact T.e1.2 _ (by simp)
  · exact T.e2.2 _ (by simp)
  · exact T.e3.2 _ (by simp)
  · exact T.e4.2 _ (by simp)
  · exact T.e5.2 _ (by simp)
  · exact T.e6.2 _ (by simp)
  · exact T.e7.2 _ (by simp)
  · exact T.e8.2 _ (by simp)
  · exact T.e9.2 _ (by simp)
  · exact T.e10.2 _ (by simp)
  · exact T.e11.2 _ (by simp)
  · exact T.e12.2 _ (by simp)
  · exact T.e13.2 _ (by simp)
theorem no_position (T : Tx K mg C S) : ∀ j, 14 ≤ j → j < 24 → PySem.W.findIn K (.ref (C j)) "position" = some none := by
  intro j h1 h2
  have : j = 14 ∨ j = 15 ∨ j = 16 ∨ j = 17 ∨ j = 18 ∨ j = 19 ∨ j = 20 ∨ j = 21 ∨ j = 22 ∨ j = 23 := by omega
  rcases this with rfl | rfl | rfl | rfl | rfl | rfl | rfl | rfl | rfl | rfl
  · exact T.e14.2 _ (by simp)
  · exact T.e15.2 _ (by simp)
  · exact T.e16.2 _ (by simp)
  · exact T.e17.2 _ (by simp)
  · exact T.e18.2 _ (by simp)
  · exact T.e19.2 _ (by simp)
  · exact T.e20.2 _ (by simp)
  · exact T.e21.2 _ (by simp)
  · exact T.e22.2 _ (by simp)
  · exact T.e23.2 _ (by simp)
theorem no_name (T : Tx K mg C S) : ∀ j, 24 ≤ j → j < 28 → PySem.W.findIn K (.ref (C j)) "name" = some none := by
  intro j h1 h2
  have : j = 24 ∨ j = 25 ∨ j = 26 ∨ j = 27 := by omega
  rcases this with rfl | rfl | rfl | rfl
  · exact T.e24.2 _ (by simp)
  · exact T.e25.2 _ (by simp)
  · exact T.e26.2 _ (by simp)
  · exact T.e27.2 _ (by simp)
abbrev s__law_fields_right : Stmt := top 53
theorem sc__law_fields_right : FnScope ["_law_by_value_here", "_law_by_position_here", "_law_by_name_here", "_law_others_here", "_law_things", "_law_one", "_law_two", "_law_made", "_law_told"] ["_law_by_value_here", "_law_by_position_here", "_law_by_name_here", "_law_others_here", "_law_things"] (defScope s__law_fields_right) := ⟨rfl, rfl, rfl, by decide +kernel, rfl, by decide +kernel, by decide +kernel⟩
theorem h_law_fields_right (B : Blts mg) (T : Tx K mg C S) (F : FunAt K mg "_law_fields_right" "_law_fields_right" s__law_fields_right) : HasG P w K mg base "_law_fields_right" 1 ["_law_by_value_here", "_law_by_position_here", "_law_by_name_here", "_law_others_here", "_law_things"] (spFields K C) := by
  refine hasG_of F sc__law_fields_right (fun _ _ _ _ _ _ us hl => match us, hl with | [_, _, _, _, _], _ => rfl) (fun vs H Q E h => ?_) (fun f cdv A outer s H vs Q E hG hr h => ?_)
  · obtain ⟨_, _, _, _, _, _, _, _, _, _, _, _, _, _, rfl, _⟩ := h; rfl
  · obtain ⟨a1, a2, a3, a4, t, v, u, d1, d2, w1, w2, w3, w4, es4, rfl, e1, z1, f1, e2, z2, f2, e3, z3, f3, e4, p4, h4, et, th1, th2, q⟩ := h
    refine ⟨_, (pss_cons (ps_asg (pv 4) (pg_tup rfl (pgs_cons (pg_name (i := 5) sc__law_fields_right.nd rfl (Or.inr rfl)) (pgs_cons (pg_name (i := 6) sc__law_fields_right.nd rfl (Or.inr rfl)) pgs_nil))))
      (pss_cons (ps_if (pt_not (pt_val (pe_callB (cr_all rfl) (by rfl) B.n_all (by decide +kernel) (pa_cons (pe_lc (own := [("_law_made", 7)]) rfl sc__law_fields_right.nd (pi_list (pv 0)) (blkOk_by (own := [("_law_made", 7)]) (N := ["_law_by_value_here", "_law_by_position_here", "_law_by_name_here", "_law_others_here", "_law_things", "_law_one", "_law_two", "_law_made", "_law_told"]) (sc := defScope s__law_fields_right) (by decide +kernel)) (fun _ _ _ _ _ => by exact (pg_name (i := 7) sc__law_fields_right.nd rfl (Or.inl rfl))) (fun _ _ _ _ _ => by exact pts_nil) (fun _ _ _ _ _ => by exact (pe_cmpR op_eq (pe_callB (call_reprT K hG hr.units) (by rfl) B.n_repr (by decide +kernel) (pa_cons (pe_xh (K := K) (pv 7) rfl) pa_nil)) (pe_callB (call_reprT K hG hr.units) (by rfl) B.n_repr (by decide +kernel) (pa_cons (pv 5) pa_nil)) (by first | exact nomark _ | rfl)))) pa_nil)))) (pss_one (ps_ret pe_bl))
        pss_nil)
      (pss_cons (ps_if (pt_not (pt_val (pe_callB (cr_all rfl) (by rfl) B.n_all (by decide +kernel) (pa_cons (pe_lc (own := [("_law_made", 7)]) rfl sc__law_fields_right.nd (pi_list (pv 1)) (blkOk_by (own := [("_law_made", 7)]) (N := ["_law_by_value_here", "_law_by_position_here", "_law_by_name_here", "_law_others_here", "_law_things", "_law_one", "_law_two", "_law_made", "_law_told"]) (sc := defScope s__law_fields_right) (by decide +kernel)) (fun _ _ _ _ _ => by exact (pg_name (i := 7) sc__law_fields_right.nd rfl (Or.inl rfl))) (fun _ _ _ _ _ => by exact pts_nil) (fun _ _ _ _ _ => by exact (pe_cmpR op_eq (pe_callB (call_reprT K hG hr.units) (by rfl) B.n_repr (by decide +kernel) (pa_cons (pe_xh (K := K) (pv 7) rfl) pa_nil)) (pe_callB (call_reprT K hG hr.units) (by rfl) B.n_repr (by decide +kernel) (pa_cons (pv 5) pa_nil)) (by first | exact nomark _ | rfl)))) pa_nil)))) (pss_one (ps_ret pe_bl))
        pss_nil)
      (pss_cons (ps_if (pt_not (pt_val (pe_callB (cr_all rfl) (by rfl) B.n_all (by decide +kernel) (pa_cons (pe_lc (own := [("_law_made", 7)]) rfl sc__law_fields_right.nd (pi_list (pv 2)) (blkOk_by (own := [("_law_made", 7)]) (N := ["_law_by_value_here", "_law_by_position_here", "_law_by_name_here", "_law_others_here", "_law_things", "_law_one", "_law_two", "_law_made", "_law_told"]) (sc := defScope s__law_fields_right) (by decide +kernel)) (fun _ _ _ _ _ => by exact (pg_name (i := 7) sc__law_fields_right.nd rfl (Or.inl rfl))) (fun _ _ _ _ _ => by exact pts_nil) (fun _ _ _ _ _ => by exact (pe_cmpR op_eq (pe_callB (call_reprT K hG hr.units) (by rfl) B.n_repr (by decide +kernel) (pa_cons (pe_xh (K := K) (pv 7) rfl) pa_nil)) (pe_callB (call_reprT K hG hr.units) (by rfl) B.n_repr (by decide +kernel) (pa_cons (pv 5) pa_nil)) (by first | exact nomark _ | rfl)))) pa_nil)))) (pss_one (ps_ret pe_bl))
        pss_nil)
      (pss_cons (ps_set (i := 8) sc__law_fields_right.nd rfl (Or.inl rfl) (pe_lst (pa_cons (pe_xh (K := K) (pe_ix ix_list (pv 3) pe_int (fun _ _ => rfl)) rfl) (pa_cons (pe_xh (K := K) (pe_ix ix_list (pv 3) pe_int (fun _ _ => rfl)) rfl) (pa_cons (pe_xh (K := K) (pe_ix ix_list (pv 3) pe_int (fun _ _ => rfl)) rfl) (pa_cons (pe_xh (K := K) (pe_ix ix_list (pv 3) pe_int (fun _ _ => rfl)) rfl) pa_nil))))))
      (pss_cons (ps_set (i := 8) sc__law_fields_right.nd rfl (Or.inl rfl) (pe_op op_cat (pv 8) (pe_lst (pa_cons (pe_xh (K := K) (pe_ix ix_list (pv 3) pe_int (fun _ _ => rfl)) rfl) (pa_cons (pe_xh (K := K) (pe_ix ix_list (pv 3) pe_int (fun _ _ => rfl)) rfl) (pa_cons (pe_xh (K := K) (pe_ix ix_list (pv 3) pe_int (fun _ _ => rfl)) rfl) (pa_cons (pe_xh (K := K) (pe_ix ix_list (pv 3) pe_int (fun _ _ => rfl)) rfl) pa_nil)))))))
      (pss_cons (ps_if (pt_cmpR op_ne (pe_callB (call_reprL K hG hr.units) (by rfl) B.n_repr (by decide +kernel) (pa_cons (pv 8) pa_nil)) (pe_callB (call_reprL K hG hr.units) (by rfl) B.n_repr (by decide +kernel) (pa_cons (pe_op op_rep (pe_lst (pa_cons (pv 5) pa_nil)) pe_int) pa_nil)) (by first | exact nomark _ | rfl)) (pss_one (ps_ret pe_bl))
        pss_nil)
      (pss_cons (ps_if (pt_not (pt_val (pe_callB (cr_all rfl) (by rfl) B.n_all (by decide +kernel) (pa_cons (pe_lc (own := [("_law_made", 7)]) rfl sc__law_fields_right.nd (pi_list (pe_slice sl_list (pv 3) (po_some pe_int) (po_some pe_int))) (blkOk_by (own := [("_law_made", 7)]) (N := ["_law_by_value_here", "_law_by_position_here", "_law_by_name_here", "_law_others_here", "_law_things", "_law_one", "_law_two", "_law_made", "_law_told"]) (sc := defScope s__law_fields_right) (by decide +kernel)) (fun _ _ _ _ _ => by exact (pg_name (i := 7) sc__law_fields_right.nd rfl (Or.inl rfl))) (fun _ _ _ _ _ => by exact pts_nil) (fun _ _ _ _ _ => by exact (pe_cmpR op_eq (pe_callB (call_reprL K hG hr.units) (by rfl) B.n_repr (by decide +kernel) (pa_cons (pe_lst (pa_cons (pe_xh (K := K) (pv 7) rfl) (pa_cons (pe_xh (K := K) (pv 7) rfl) pa_nil))) pa_nil)) (pe_callB (call_reprL K hG hr.units) (by rfl) B.n_repr (by decide +kernel) (pa_cons (pe_lst (pa_cons (pv 5) (pa_cons (pv 6) pa_nil))) pa_nil)) (by first | exact nomark _ | rfl)))) pa_nil)))) (pss_one (ps_ret pe_bl))
        pss_nil)
      (pss_cons (ps_if (pt_not (pt_val (pe_callB (cr_all rfl) (by rfl) B.n_all (by decide +kernel) (pa_cons (pe_lc (own := [("_law_made", 7)]) rfl sc__law_fields_right.nd (pi_list (pe_slice sl_list (pv 3) (po_some pe_int) (po_some pe_int))) (blkOk_by (own := [("_law_made", 7)]) (N := ["_law_by_value_here", "_law_by_position_here", "_law_by_name_here", "_law_others_here", "_law_things", "_law_one", "_law_two", "_law_made", "_law_told"]) (sc := defScope s__law_fields_right) (by decide +kernel)) (fun _ _ _ _ _ => by exact (pg_name (i := 7) sc__law_fields_right.nd rfl (Or.inl rfl))) (fun _ _ _ _ _ => by exact pts_nil) (fun _ _ _ _ _ => by exact (pe_cmpR op_eq (pe_callB (call_reprL K hG hr.units) (by rfl) B.n_repr (by decide +kernel) (pa_cons (pe_lst (pa_cons (pe_xh (K := K) (pv 7) rfl) (pa_cons (pe_xh (K := K) (pv 7) rfl) pa_nil))) pa_nil)) (pe_callB (call_reprL K hG hr.units) (by rfl) B.n_repr (by decide +kernel) (pa_cons (pe_lst (pa_cons (pv 5) (pa_cons (pv 6) pa_nil))) pa_nil)) (by first | exact nomark _ | rfl)))) pa_nil)))) (pss_one (ps_ret pe_bl))
        pss_nil)
      (pss_one (ps_ret (pe_callB (cr_all rfl) (by rfl) B.n_all (by decide +kernel) (pa_cons (pe_lc (own := [("_law_made", 7)]) rfl sc__law_fields_right.nd (pi_list (pe_slice sl_list (pv 3) (po_some pe_int) (po_some pe_int))) (blkOk_by (own := [("_law_made", 7)]) (N := ["_law_by_value_here", "_law_by_position_here", "_law_by_name_here", "_law_others_here", "_law_things", "_law_one", "_law_two", "_law_made", "_law_told"]) (sc := defScope s__law_fields_right) (by decide +kernel)) (fun _ _ _ _ _ => by exact (pg_name (i := 7) sc__law_fields_right.nd rfl (Or.inl rfl))) (fun _ _ _ _ _ => by exact pts_nil) (fun _ _ _ _ _ => by exact (pe_cmpR op_eq (pe_callB (call_reprL K hG hr.units) (by rfl) B.n_repr (by decide +kernel) (pa_cons (pe_lst (pa_cons (pe_xh (K := K) (pv 7) rfl) (pa_cons (pe_xh (K := K) (pv 7) rfl) pa_nil))) pa_nil)) (pe_callB (call_reprL K hG hr.units) (by rfl) B.n_repr (by decide +kernel) (pa_cons (pe_lst (pa_cons (pv 5) (pa_cons (pv 6) pa_nil))) pa_nil)) (by first | exact nomark _ | rfl)))) pa_nil))))))))))))), ?_⟩
    refine ⟨_, rfl, t, _, rfl, SqT.of et, rfl, _, _, rfl, _, _, rfl, rfl, ?_⟩
    change tSeq _ _ _ [some (.ref a1), some (.ref a2), some (.ref a3), some (.ref a4), some (.ref t), some v, some u, none, none] H
    refine all_loop rfl e1 z1 (fun x m => let ⟨b, j, e, l1, l2, q⟩ := f1 x m; ⟨b, C j, e, T.cl.xf j (by omega), no_value T j l1 l2, q⟩) th1 fun H1 s1 => ?_
    refine all_loop rfl (s1 _ _ e2) z2 (fun x m => let ⟨b, j, e, l1, l2, q⟩ := f2 x m; ⟨b, C j, e, T.cl.xf j (by omega), no_position T j l1 l2, q.same s1⟩) (same_th th1 s1) fun H2 s2 => ?_
    have s12 := s1.trans s2
    refine all_loop rfl (s12 _ _ e3) z3 (fun x m => let ⟨b, j, e, l1, l2, q⟩ := f3 x m; ⟨b, C j, e, T.cl.xf j (by omega), no_name T j l1 l2, q.same s12⟩) (same_th th1 s12) fun H3 s3 => ?_
    have s13 := s12.trans s3
    cases h4
    obtain ⟨b0, w4, rfl, k0, p4⟩ := errs_cons p4
    obtain ⟨b1, w4, rfl, k1, p4⟩ := errs_cons p4
    obtain ⟨b2, w4, rfl, k2, p4⟩ := errs_cons p4
    obtain ⟨b3, w4, rfl, k3, p4⟩ := errs_cons p4
    obtain ⟨b4, w4, rfl, k4, p4⟩ := errs_cons p4
    obtain ⟨b5, w4, rfl, k5, p4⟩ := errs_cons p4
    obtain ⟨b6, w4, rfl, k6, p4⟩ := errs_cons p4
    obtain ⟨b7, w4, rfl, k7, p4⟩ := errs_cons p4
    obtain ⟨b8, w4, rfl, k8, p4⟩ := errs_cons p4
    obtain ⟨b9, w4, rfl, k9, p4⟩ := errs_cons p4
    obtain ⟨b10, w4, rfl, k10, p4⟩ := errs_cons p4
    obtain ⟨b11, w4, rfl, k11, p4⟩ := errs_cons p4
    obtain ⟨b12, w4, rfl, k12, p4⟩ := errs_cons p4
    obtain ⟨b13, w4, rfl, k13, p4⟩ := errs_cons p4
    obtain ⟨b14, w4, rfl, k14, p4⟩ := errs_cons p4
    obtain ⟨b15, w4, rfl, k15, p4⟩ := errs_cons p4
    obtain ⟨b16, w4, rfl, k16, p4⟩ := errs_cons p4
    obtain ⟨b17, w4, rfl, k17, p4⟩ := errs_cons p4
    cases errs_nil p4
    have e4' := s13 _ _ e4
    refine seq_set ⟨_, rfl, a4, _, 0, _, rfl, rfl, SqL.of e4', rfl, b0, C 28, _, v, rfl, T.cl.xf 28 (by decide), T.e28.2 _ (by simp), k0.same s13, lk_hd, _, rfl, a4, _, 1, _, rfl, rfl, SqL.of e4', rfl, b1, C 28, _, v, rfl, T.cl.xf 28 (by decide), T.e28.2 _ (by simp), k1.same s13, lk_hd, _, rfl, a4, _, 2, _, rfl, rfl, SqL.of e4', rfl, b2, C 29, _, v, rfl, T.cl.xf 29 (by decide), T.e29.2 _ (by simp), k2.same s13, lk_hd, _, rfl, a4, _, 3, _, rfl, rfl, SqL.of e4', rfl, b3, C 29, _, v, rfl, T.cl.xf 29 (by decide), T.e29.2 _ (by simp), k3.same s13, lk_hd, (by show 4 ≤ sizeLine; decide), fun l1 n1 => ?_⟩
    have s4 := s13.trans (Same.new (o := .lst [v, v, v, v]) n1)
    have el1 : (upd H3 l1 (.lst [v, v, v, v])) l1 = some (.lst [v, v, v, v]) := upd_same
    generalize upd H3 l1 (.lst [v, v, v, v]) = H4 at s4 el1 ⊢
    refine seq_set ⟨_, rfl, _, rfl, a4, _, 4, _, rfl, rfl, SqL.of (s4 _ _ e4), rfl, b4, C 30, _, v, rfl, T.cl.xf 30 (by decide), T.e30.2 _ (by simp), k4.same s4, lk_hd, _, rfl, a4, _, 5, _, rfl, rfl, SqL.of (s4 _ _ e4), rfl, b5, C 30, _, v, rfl, T.cl.xf 30 (by decide), T.e30.2 _ (by simp), k5.same s4, lk_hd, _, rfl, a4, _, 6, _, rfl, rfl, SqL.of (s4 _ _ e4), rfl, b6, C 31, _, v, rfl, T.cl.xf 31 (by decide), T.e31.2 _ (by simp), k6.same s4, lk_hd, _, rfl, a4, _, 7, _, rfl, rfl, SqL.of (s4 _ _ e4), rfl, b7, C 31, _, v, rfl, T.cl.xf 31 (by decide), T.e31.2 _ (by simp), k7.same s4, lk_hd, (by show 4 ≤ sizeLine; decide), fun l2 n2 => ⟨l1, l2, _, _, rfl, rfl, Same.new n2 _ _ el1, upd_same, (by show 4 + 4 ≤ sizeLine; decide), fun l3 n3 => ?_⟩⟩
    have s5 := s4.trans ((Same.new (o := .lst [v, v, v, v]) n2).trans (Same.new (o := .lst ([v, v, v, v] ++ [v, v, v, v])) n3))
    have el3 : (upd (upd H4 l2 (.lst [v, v, v, v])) l3 (.lst ([v, v, v, v] ++ [v, v, v, v]))) l3 = some (.lst [v, v, v, v, v, v, v, v]) := upd_same
    generalize upd (upd H4 l2 (.lst [v, v, v, v])) l3 (.lst ([v, v, v, v] ++ [v, v, v, v])) = H5 at s5 el3 ⊢
    have p8 : ∀ {G : Hp}, Same H G → Paired (Th K G) [v, v, v, v, v, v, v, v] [d1, d1, d1, d1, d1, d1, d1, d1] := fun s => have z := same_th th1 s; .cons z (.cons z (.cons z (.cons z (.cons z (.cons z (.cons z (.cons z .nil)))))))
    refine seq_cut (fun σ' H' => σ' = [some (.ref a1), some (.ref a2), some (.ref a3), some (.ref a4), some (.ref t), some v, some u, none, some (.ref l3)] ∧ Same H H') (fun Z hZ => ?_) ?_
    · refine ⟨_, rfl, l3, _, _, rfl, SqL.of el3, p8 s5, (fun z => nomatch z), (by show 8 ≤ 100; decide), _, rfl, (by show 1 ≤ sizeLine; decide), fun l4 n4 => ⟨l4, 8, _, rfl, rfl, upd_same, by decide, by decide, (by show 1 * 8 ≤ sizeLine; decide), fun l5 n5 => ?_⟩⟩
      have s6 := s5.trans ((Same.new (o := .lst [v]) n4).trans (Same.new (o := .lst (List.replicate (8 : Int).toNat [v]).flatten) n5))
      exact ⟨l5, _, _, rfl, SqL.of upd_same, p8 s6, (fun z => nomatch z), (by show 8 ≤ 100; decide), rfl, _, rfl, ne_str (hZ _ _ ⟨rfl, s6⟩)⟩
    rintro _ H6 ⟨rfl, s6⟩
    refine seq_cut (fun σ' H' => σ' = [some (.ref a1), some (.ref a2), some (.ref a3), some (.ref a4), some (.ref t), some v, some u, none, some (.ref l3)] ∧ Same H H') (fun Z hZ => ?_) ?_
    · exact two_all (s6 _ _ e4) rfl (T.cl.xf 32 (by decide)) (T.e32.2 _ (by simp)) (T.e32.2 _ (by simp)) (k8.same s6) (k9.same s6) (by decide) (same_th th1 s6) (same_th th2 s6) fun H' s => ⟨_, rfl, hZ _ _ ⟨rfl, s6.trans s⟩⟩
    rintro _ H7 ⟨rfl, s7⟩
    refine seq_cut (fun σ' H' => σ' = [some (.ref a1), some (.ref a2), some (.ref a3), some (.ref a4), some (.ref t), some v, some u, none, some (.ref l3)] ∧ Same H H') (fun Z hZ => ?_) ?_
    · exact two_all (s7 _ _ e4) rfl (T.cl.xf 33 (by decide)) (T.e33.2 _ (by simp)) (T.e33.2 _ (by simp)) (k10.same s7) (k11.same s7) (by decide) (same_th th1 s7) (same_th th2 s7) fun H' s => ⟨_, rfl, hZ _ _ ⟨rfl, s7.trans s⟩⟩
    rintro _ H8 ⟨rfl, s8⟩
    exact two_all (s8 _ _ e4) rfl (T.cl.xf 34 (by decide)) (T.e34.2 _ (by simp)) (T.e34.2 _ (by simp)) (k12.same s8) (k13.same s8) (by decide) (same_th th1 s8) (same_th th2 s8) fun H' s => q _ (s8.trans s)
end
end N

set_option maxHeartbeats 4000000
namespace N
open PySem L2
/-- told data as long as all but D and p stays -/
def Own (K : PySem.W.Frag) (D p : Addr) (H : Hp) (v : V) (d : PyData) : Prop := ∀ H', (∀ b o, b ≠ D → b ≠ p → H b = some o → H' b = some o) → Th K H' v d
theorem Thing.own {K : PySem.W.Frag} {H0 H : Hp} {D p : Addr} {v : V} {d : PyData} (h : Thing K H0 H v d) (hD : H0 D ≠ none) (hp : H0 p ≠ none) : Own K D p H v d := fun H' s => h H' fun b o n e => s b o (fun z => hD (z ▸ n)) (fun z => hp (z ▸ n)) e
theorem Own.but {K : PySem.W.Frag} {H H' : Hp} {D p : Addr} {v : V} {d : PyData} (h : Own K D p H v d) (e : ∀ b o, b ≠ D → b ≠ p → H b = some o → H' b = some o) : Own K D p H' v d := fun H2 s => h H2 fun b o n m z => s b o n m (e b o n m z)
theorem pair_at {α β : Type} {R : α → β → Prop} : ∀ {xs : List α} {ys : List β}, Paired R xs ys → ∀ {i : Nat} {x : α}, xs[i]? = some x → ∃ y, ys[i]? = some y ∧ R x y
  | _, _, .nil, _, _, h => by simp at h
  | _, _, .cons r t, 0, x, h => by
    cases (show some _ = some x from h)
    exact ⟨_, rfl, r⟩
  | _, _, .cons r t, i + 1, x, h => pair_at t (i := i) (x := x) h
def spRight : Sp := fun vs H Q _ => ∃ p : Addr, vs = [.ref p] ∧ Pot H p ∧ ∀ H', But p H H' → Q (.bl true) H'
section
variable {P : Program} {w : World} {K : PySem.W.Frag} {mg : Str → Option Value} {base : Heap} {C S : Nat → Addr}
abbrev s__law_right : Stmt := top 55
theorem sc__law_right : FnScope ["_law_pot_here", "_law_one", "_law_two", "_law_three", "_law_turn", "_law_by_value_here", "_law_by_position_here", "_law_by_name_here", "_law_others_here", "_law_made", "_law_at", "_law_error", "_law_due", "_law_place", "_law_fresh"] ["_law_pot_here"] (defScope s__law_right) := ⟨rfl, rfl, rfl, by decide +kernel, rfl, by decide +kernel, by decide +kernel⟩
theorem h_law_right (B : Blts mg) (T : Tx K mg C S) (F : FunAt K mg "_law_right" "_law_right" s__law_right) (h_law_thing : Has P w K mg base "_law_thing" 3 ["_law_pot_here"] (spThing K))
    (h_law_by_value : Has P w K mg base "_law_by_value" 3 ["_law_one"] (spMk 1 (twice (fun i => .one (C i) "value" 0) 0 14))) (h_law_by_position : Has P w K mg base "_law_by_position" 3 ["_law_one"] (spMk 1 (twice (fun i => .one (C i) "position" 0) 14 10)))
    (h_law_by_name : Has P w K mg base "_law_by_name" 3 ["_law_one"] (spMk 1 (twice (fun i => .one (C i) "name" 0) 24 4))) (h_law_others : Has P w K mg base "_law_others" 3 ["_law_one", "_law_two"] (spMk 2 (othersMk C)))
    (h_law_marks : Has P w K mg base "_law_marks" 1 ["_law_made"] (spMarks C)) (h_law_base_right : Has P w K mg base "_law_base_right" 1 ["_law_made", "_law_place"] (spBase C)) (h_law_raised : Has P w K mg base "_law_raised" 3 ["_law_one", "_law_two"] spRaised)
    (h_law_fields_right : HasG P w K mg base "_law_fields_right" 1 ["_law_by_value_here", "_law_by_position_here", "_law_by_name_here", "_law_others_here", "_law_things"] (spFields K C)) : HasG P w K mg base "_law_right" 4 ["_law_pot_here"] spRight := by
  refine hasG_of F sc__law_right (fun _ _ _ _ _ _ us hl => match us, hl with | [_], _ => rfl) (fun vs H Q E h => ?_) (fun f cdv A outer s H vs Q E hG hr h => ?_)
  · obtain ⟨_, rfl, _⟩ := h; rfl
  · obtain ⟨p, rfl, hp, q⟩ := h
    refine ⟨_, (pss_cons (ps_asg (pe_lc (own := [("_law_turn", 4)]) rfl sc__law_right.nd (pi_range1 (by rfl) B.n_range (pa_cons pe_int pa_nil)) (blkOk_by (own := [("_law_turn", 4)]) (N := ["_law_pot_here", "_law_one", "_law_two", "_law_three", "_law_turn", "_law_by_value_here", "_law_by_position_here", "_law_by_name_here", "_law_others_here", "_law_made", "_law_at", "_law_error", "_law_due", "_law_place", "_law_fresh"]) (sc := defScope s__law_right) (by decide +kernel)) (fun _ _ _ _ _ => by exact (pg_name (i := 4) sc__law_right.nd rfl (Or.inl rfl))) (fun _ _ _ _ _ => by exact pts_nil) (fun _ _ _ _ _ => by exact (pe_has h_law_thing (hr.mono (by decide)) (pa_cons (pv 0) pa_nil)))) (pg_unl rfl (pgs_cons (pg_name (i := 1) sc__law_right.nd rfl (Or.inl rfl)) (pgs_cons (pg_name (i := 2) sc__law_right.nd rfl (Or.inl rfl)) (pgs_cons (pg_name (i := 3) sc__law_right.nd rfl (Or.inl rfl)) pgs_nil)))))
      (pss_cons (ps_par (i := 5) (j := 6) (by rfl) sc__law_right.nd rfl rfl (by decide) rfl rfl (pa_cons (pe_has h_law_by_value (hr.mono (by decide)) (pa_cons (pv 1) pa_nil)) (pa_cons (pe_has h_law_by_position (hr.mono (by decide)) (pa_cons (pv 1) pa_nil)) pa_nil)) (by rfl))
      (pss_cons (ps_par (i := 7) (j := 8) (by rfl) sc__law_right.nd rfl rfl (by decide) rfl rfl (pa_cons (pe_has h_law_by_name (hr.mono (by decide)) (pa_cons (pv 1) pa_nil)) (pa_cons (pe_has h_law_others (hr.mono (by decide)) (pa_cons (pv 1) (pa_cons (pv 2) pa_nil))) pa_nil)) (by rfl))
      (pss_cons (ps_set (i := 9) sc__law_right.nd rfl (Or.inl rfl) (pe_op op_cat (pe_op op_cat (pe_op op_cat (pv 5) (pv 6)) (pv 7)) (pv 8)))
      (pss_cons (ps_for PassesOwn.never rfl (pi_enum (by rfl) B.n_enumerate (pa_cons (pv 9) pa_nil)) (pg_tup rfl (pgs_cons (pg_name (i := 10) sc__law_right.nd rfl (Or.inr rfl)) (pgs_cons (pg_name (i := 11) sc__law_right.nd rfl (Or.inl rfl)) pgs_nil)))
        (pss_cons (ps_setLc (i := 12) (own := [("_law_place", 13)]) rfl sc__law_right.nd rfl rfl (sw_true rfl rfl rfl (by decide +kernel)) (pi_range1 (by rfl) B.n_range (pa_cons pe_int pa_nil)) (blkOk_by (own := [("_law_place", 13)]) (N := ["_law_pot_here", "_law_one", "_law_two", "_law_three", "_law_turn", "_law_by_value_here", "_law_by_position_here", "_law_by_name_here", "_law_others_here", "_law_made", "_law_at", "_law_error", "_law_due", "_law_place", "_law_fresh"]) (sc := defScope s__law_right) (by decide +kernel)) (fun _ _ _ _ _ => by exact (pg_name (i := 13) sc__law_right.nd rfl (Or.inl rfl))) (fun _ _ _ _ _ => by exact pts_nil) (fun _ _ _ _ _ => by exact (pe_cmpR op_eq (pv 13) (pe_op op_fdiv (pv 10) pe_int) (by first | exact nomark _ | rfl))))
        (pss_one (ps_if (PW.pt (pw_or (pt_cmpR (op_neD hr.units) (pe_has h_law_marks (hr.mono (by decide)) (pa_cons (pv 11) pa_nil)) (pv 12) (by first | exact nomark _ | rfl)) (pw_or1 (pt_not (pt_val (pe_has h_law_base_right (hr.mono (by decide)) (pa_cons (pv 11) (pa_cons (pe_op op_fdiv (pv 10) pe_int) pa_nil)))))))) (pss_one (ps_ret pe_bl))
          pss_nil))))
      (pss_cons (ps_set (i := 14) sc__law_right.nd rfl (Or.inl rfl) (pe_op op_cat (pe_has h_law_by_value (hr.mono (by decide)) (pa_cons (pv 3) pa_nil)) (pe_has h_law_by_position (hr.mono (by decide)) (pa_cons (pv 3) pa_nil))))
      (pss_cons (ps_set (i := 14) sc__law_right.nd rfl (Or.inl rfl) (pe_op op_cat (pe_op op_cat (pv 14) (pe_has h_law_by_name (hr.mono (by decide)) (pa_cons (pv 3) pa_nil))) (pe_has h_law_others (hr.mono (by decide)) (pa_cons (pv 2) (pa_cons (pv 3) pa_nil)))))
      (pss_cons (ps_if (PW.pt (pw_or (pt_cmpR op_ne (pe_callB call_len (by rfl) B.n_len PySem.boot_len (pa_cons (pv 14) pa_nil)) (pe_callB call_len (by rfl) B.n_len PySem.boot_len (pa_cons (pv 9) pa_nil)) (by first | exact nomark _ | rfl)) (pw_or1 (pt_not (pt_val (pe_has h_law_raised (hr.mono (by decide)) (pa_cons (pv 2) (pa_cons (pv 3) pa_nil)))))))) (pss_one (ps_ret pe_bl))
        pss_nil)
      (pss_one (ps_ret (pe_hasG h_law_fields_right (hr.mono (by decide)) hG (pa_cons (pv 5) (pa_cons (pv 6) (pa_cons (pv 7) (pa_cons (pv 8) (pa_cons (pe_tup (pa_cons (pv 1) (pa_cons (pv 2) pa_nil))) pa_nil)))))))))))))))), ?_⟩
    refine ⟨3, rfl, by decide, by decide, fun D nD => lc_range (lo := 0) (n := 3) (fun i H' => Pot H' p ∧ But p H H' ∧ D ≠ p ∧ ∃ ys ds, H' D = some (.lst ys) ∧ ys.length = i ∧ Paired (Own K D p H') ys ds) ⟨hp.new nD, But.new nD, hp.ne nD, [], [], upd_same, rfl, .nil⟩ ?_ ?_⟩
    · rintro i H1 hi ⟨hp1, b1, nDp, ys, ds, hD, hl, pr⟩
      refine ⟨rfl, _, rfl, p, rfl, hp1, fun v d H2 b2 hp2 th => ?_⟩
      have eD := b2 _ _ hD nDp
      refine ⟨_, eD, (by rw [hl]; exact Nat.lt_of_lt_of_le (by omega : i < 10) (by decide)), ?_, fun b o z n => ?_, nDp, _, _, upd_same, (by rw [List.length_append, hl]; rfl), paired_app (paired_map (fun _ _ z => Own.but z fun b o n m e => by rw [upd_ne n]; exact b2 _ _ e m) pr) (.cons (Own.but (th.own (by rw [hD]; exact fun z => nomatch z) (by obtain ⟨o, e⟩ := hp1.at; rw [e]; exact fun z => nomatch z)) fun b o n m e => by rw [upd_ne n]; exact e) .nil)⟩
      · obtain ⟨x, y, e, r⟩ := hp2
        exact ⟨x, y, by rw [upd_ne (Ne.symm nDp)]; exact e, r⟩
      · rw [upd_ne (ne_of_none z nD)]
        exact b2 _ _ (b1 _ _ z n) n
    · rintro H1 ⟨hp1, b1, nDp, ys, ds, hD, hl, pr⟩
      obtain ⟨v1, v2, v3, rfl⟩ : ∃ a b c, ys = [a, b, c] := by
        match ys, hl with
        | [a, b, c], _ => exact ⟨a, b, c, rfl⟩
      obtain ⟨d1, d2, d3, rfl, o1, o2, o3⟩ : ∃ a b c, ds = [a, b, c] ∧ Own K D p H1 v1 a ∧ Own K D p H1 v2 b ∧ Own K D p H1 v3 c := by
        cases pr with
        | cons r1 t =>
          cases t with
          | cons r2 t =>
            cases t with
            | cons r3 t =>
              cases t
              exact ⟨_, _, _, rfl, r1, r2, r3⟩
      have th1 : Th K H1 v1 d1 := o1 H1 fun _ _ _ _ e => e
      have th2 : Th K H1 v2 d2 := o2 H1 fun _ _ _ _ e => e
      clear o1 o2 o3 pr
      have fin : ∀ H', Same H1 H' → Q (.bl true) H' := fun H' s => q H' fun b o z n => s _ _ (b1 _ _ z n)
      obtain ⟨es1, h1⟩ : ∃ es, atAll [some v1] (twice (fun i => .one (C i) "value" 0) 0 14) = some es := ⟨_, rfl⟩
      obtain ⟨es2, h2⟩ : ∃ es, atAll [some v1] (twice (fun i => .one (C i) "position" 0) 14 10) = some es := ⟨_, rfl⟩
      obtain ⟨es3, h3⟩ : ∃ es, atAll [some v1] (twice (fun i => .one (C i) "name" 0) 24 4) = some es := ⟨_, rfl⟩
      obtain ⟨es4, h4⟩ : ∃ es, atAll [some v1, some v2] (othersMk C) = some es := ⟨_, rfl⟩
      have big : (es1 ++ es2 ++ es3 ++ es4).map (·.1) = (List.range 74).map (fun k => C (k / 2)) := by cases h1; cases h2; cases h3; cases h4; rfl
      have g1 : es1.length = 28 := by cases h1; rfl
      have g2 : es2.length = 20 := by cases h2; rfl
      have g3 : es3.length = 8 := by cases h3; rfl
      have g4 : es4.length = 18 := by cases h4; rfl
      refine ⟨D, _, rfl, SqL.of hD, rfl, _, _, rfl, _, _, rfl, _, _, rfl, rfl, ?_⟩
      refine ⟨_, rfl, rfl, es1, h1, fun l1 w1 H2 s1 n1 e1 p1 => ⟨_, rfl, rfl, es2, h2, fun l2 w2 H3 s2 n2 e2 p2 => ⟨_, _, rfl, ?_⟩⟩⟩
      refine ⟨_, rfl, rfl, es3, h3, fun l3 w3 H4 s3 n3 e3 p3 => ⟨_, rfl, _, rfl, rfl, es4, h4, fun l4 w4 H5 s4 n4 e4 p4 => ⟨_, _, rfl, ?_⟩⟩⟩
      have q1 := plen2 p1
      have q2 := plen2 p2
      have q3 := plen2 p3
      have q4 := plen2 p4
      have e1 := s4 _ _ (s3 _ _ (s2 _ _ e1))
      have e2 := s4 _ _ (s3 _ _ e2)
      have e3 := s4 _ _ e3
      have p1 := ((p1.same s2).same s3).same s4
      have p2 := (p2.same s3).same s4
      have p3 := p3.same s4
      have S5 := ((s1.trans s2).trans s3).trans s4
      clear s1 s2 s3 s4 n1 n2 n3 n4
      dsimp only
      refine seq_set ⟨_, rfl, _, rfl, l1, l2, _, _, rfl, rfl, e1, e2, line1000 (by omega), fun m1 k1 => ⟨_, rfl, m1, l3, _, _, rfl, rfl, upd_same, Same.new k1 _ _ e3, line1000 (by rw [List.length_append]; omega), fun m2 k2 => ⟨_, rfl, m2, l4, _, _, rfl, rfl, upd_same, Same.new k2 _ _ (Same.new k1 _ _ e4), line1000 (by rw [List.length_append, List.length_append]; omega), fun m3 k3 => ?_⟩⟩⟩
      have s6 := ((Same.new (o := .lst (w1 ++ w2)) k1).trans (Same.new (o := .lst (w1 ++ w2 ++ w3)) k2)).trans (Same.new (o := .lst (w1 ++ w2 ++ w3 ++ w4)) k3)
      have em : (upd (upd (upd H5 m1 (.lst (w1 ++ w2))) m2 (.lst (w1 ++ w2 ++ w3))) m3 (.lst (w1 ++ w2 ++ w3 ++ w4))) m3 = some (.lst (w1 ++ w2 ++ w3 ++ w4)) := upd_same
      generalize upd (upd (upd H5 m1 (.lst (w1 ++ w2))) m2 (.lst (w1 ++ w2 ++ w3))) m3 (.lst (w1 ++ w2 ++ w3 ++ w4)) = H6 at s6 em ⊢
      have pm : ErrsV H6 (w1 ++ w2 ++ w3 ++ w4) (es1 ++ es2 ++ es3 ++ es4) := paired_app (paired_app (paired_app (p1.same s6) (p2.same s6)) (p3.same s6)) (p4.same s6)
      have S6 := S5.trans s6
      have lm : (w1 ++ w2 ++ w3 ++ w4).length = 74 := by simp only [List.length_append]; omega
      clear k1 k2 k3
      refine seq_cut (fun σ' H' => (∃ x10 x11 x12 : Option V, σ' = [some (.ref p), some v1, some v2, some v3, none, some (.ref l1), some (.ref l2), some (.ref l3), some (.ref l4), some (.ref m3), x10, x11, x12, none, none]) ∧ Same H6 H') (fun Z hZ => ?_) ?_
      · refine ⟨_, rfl, m3, _, rfl, SqL.of em, for_it (walk_enum (K := K) (a := m3) (xs := w1 ++ w2 ++ w3 ++ w4)) (fun i σ' H' => (∃ x10 x11 x12 : Option V, σ' = [some (.ref p), some v1, some v2, some v3, none, some (.ref l1), some (.ref l2), some (.ref l3), some (.ref l4), some (.ref m3), x10, x11, x12, none, none]) ∧ Same H6 H') ⟨⟨none, none, none, rfl⟩, Same.refl _⟩ (fun i σ' H' _ z => SqL.of (z.2 _ _ em)) ?_ (fun σ' H' z => hZ _ _ z)⟩
        rintro i x σ' G G' hi ⟨⟨x10, x11, x12, rfl⟩, sG⟩ ⟨t, y, z, rfl, nt, rfl, hy, hz⟩
        cases hy
        obtain ⟨e, he, a, rfl, ea⟩ := pair_at pm hz
        have hi' : i < 74 := by rw [lm] at hi; exact hi
        have hk : i / 2 < 37 := by omega
        have ec : e.1 = C (i / 2) := by
          have z : ((es1 ++ es2 ++ es3 ++ es4).map (·.1))[i]? = some e.1 := by rw [List.getElem?_map, he]; rfl
          rw [big, List.getElem?_map, List.getElem?_range hi'] at z
          exact (Option.some.inj z).symm
        have ei : ((i : Int) / 2) = ((i / 2 : Nat) : Int) := by omega
        have ea : ErrAt H6 a (C (i / 2)) e.2 := ec ▸ ea
        refine ⟨t, _, rfl, SqT.of upd_same, rfl, _, _, rfl, _, _, rfl, rfl, ?_⟩
        have sT : Same H6 (upd G t (.tup [.int (i : Nat), .ref a])) := sG.trans (Same.new nt)
        generalize upd G t (.tup [.int (i : Nat), .ref a]) = G1 at sT ⊢
        refine seq_set ⟨37, rfl, by decide, by decide, fun D2 nD2 => lc_mapr (fun j => .bl (decide (i / 2 = j))) nD2 (by decide) ?_ ?_⟩
        · intro j G2 hj s R hR
          refine ⟨rfl, _, rfl, _, rfl, _, _, rfl, rfl, ⟨by decide, by decide⟩, rfl, ?_⟩
          have y : decide (V.int (0 + (j : Int)) = V.int ((i : Int) / 2)) = decide (i / 2 = j) := by
            rw [decide_eq_decide]
            constructor
            · intro h
              injection h with h
              omega
            · intro h
              congr 1
              omega
          rw [y]
          exact hR _ (Same.refl _)
        · intro G2 s2 eD2
          have sG2 := sT.trans s2
          refine ⟨_, rfl, a, i / 2, e.2, rfl, hk, ea.same sG2, fun l G3 s3 n3 el => ⟨_, rfl, _, _, dp_bools (bs := (List.range 37).map fun j => decide (i / 2 = j)) (SqL.of (by rw [el, List.map_map]; rfl)), dp_bools (bs := (List.range 37).map fun j => decide (i / 2 = j)) (SqL.of (by rw [s3 _ _ eD2, List.map_map]; rfl)), bools_shaped _, bools_shaped _, _, rfl, ?_⟩⟩
          rw [bools_eqv]
          refine iteF ?_
          refine ⟨_, rfl, _, rfl, _, _, rfl, rfl, ⟨by decide, by decide⟩, a, i / 2, e.2, (by show [V.ref a, V.int ((i : Int) / 2)] = _; rw [ei]), hk, ea.same (sG2.trans s3), fun G4 s4 => ⟨true, rfl, iteF ⟨⟨_, _, _, rfl⟩, (sG2.trans s3).trans s4⟩⟩⟩
      rintro _ H7 ⟨⟨x10, x11, x12, rfl⟩, s7⟩
      refine seq_set ⟨_, rfl, rfl, _, rfl, fun l5 w5 H8 s8 n8 e8 p8 => ⟨_, rfl, rfl, _, rfl, fun l6 w6 H9 s9 n9 e9 p9 => ⟨l5, l6, _, _, rfl, rfl, s9 _ _ e8, e9, line1000 ?_, fun m5 k5 => ?_⟩⟩⟩
      · have y8 : w5.length = 28 := plen2 p8
        have y9 : w6.length = 20 := plen2 p9
        omega
      have y8 : w5.length = 28 := plen2 p8
      have y9 : w6.length = 20 := plen2 p9
      have S9 := ((s7.trans s8).trans s9).trans (Same.new (o := .lst (w5 ++ w6)) k5)
      have em5 : (upd H9 m5 (.lst (w5 ++ w6))) m5 = some (.lst (w5 ++ w6)) := upd_same
      generalize upd H9 m5 (.lst (w5 ++ w6)) = H9' at S9 em5 ⊢
      refine seq_set ⟨_, rfl, _, rfl, rfl, _, rfl, fun l7 w7 H10 s10 n10 e10 p10 => ⟨m5, l7, _, _, rfl, rfl, s10 _ _ em5, e10, line1000 ?_, fun m6 k6 => ⟨_, rfl, _, rfl, rfl, _, rfl, fun l8 w8 H11 s11 n11 e11 p11 => ⟨m6, l8, _, _, rfl, rfl, s11 _ _ upd_same, e11, line1000 ?_, fun m7 k7 => ?_⟩⟩⟩⟩
      · have y10 : w7.length = 8 := plen2 p10
        rw [List.length_append]
        omega
      · have y10 : w7.length = 8 := plen2 p10
        have y11 : w8.length = 18 := plen2 p11
        rw [List.length_append, List.length_append]
        omega
      have y10 : w7.length = 8 := plen2 p10
      have y11 : w8.length = 18 := plen2 p11
      have S11 := (((S9.trans s10).trans (Same.new (o := .lst (w5 ++ w6 ++ w7)) k6)).trans s11).trans (Same.new (o := .lst (w5 ++ w6 ++ w7 ++ w8)) k7)
      have em7 : (upd H11 m7 (.lst (w5 ++ w6 ++ w7 ++ w8))) m7 = some (.lst (w5 ++ w6 ++ w7 ++ w8)) := upd_same
      have lf : (w5 ++ w6 ++ w7 ++ w8).length = 74 := by simp only [List.length_append]; omega
      generalize upd H11 m7 (.lst (w5 ++ w6 ++ w7 ++ w8)) = H12 at S11 em7 ⊢
      refine seq_cut (fun σ' H' => σ' = [some (.ref p), some v1, some v2, some v3, none, some (.ref l1), some (.ref l2), some (.ref l3), some (.ref l4), some (.ref m3), x10, x11, x12, none, some (.ref m7)] ∧ Same H6 H') (fun Z hZ => ?_) ?_
      · refine ⟨_, rfl, _, 74, rfl, .inl ⟨_, SqL.of em7, lf.symm⟩, _, rfl, _, 74, rfl, .inl ⟨_, SqL.of (S11 _ _ em), lm.symm⟩, rfl, _, rfl, ?_⟩
        refine iteF ?_
        exact ⟨_, rfl, _, rfl, v2, v3, rfl, fun H' s => ⟨true, rfl, iteF (hZ _ _ ⟨rfl, S11.trans s⟩)⟩⟩
      rintro _ H13 ⟨rfl, s13⟩
      have R13 := s6.trans s13
      have S13 := S5.trans R13
      refine ⟨_, rfl, _, rfl, _, rfl, _, rfl, _, rfl, _, rfl, (by show 2 ≤ sizeLine; decide), fun t2 nt2 => ?_⟩
      have z := Same.new (o := .tup [v1, v2]) nt2
      exact ⟨l1, l2, l3, l4, t2, v1, v2, d1, d2, w1, w2, w3, w4, es4, rfl, (R13.trans z) _ _ e1, by omega, (allF_of p1 h1).same (R13.trans z), (R13.trans z) _ _ e2, by omega, (allF_of p2 h2).same (R13.trans z), (R13.trans z) _ _ e3, by omega, (allF_of p3 h3).same (R13.trans z), (R13.trans z) _ _ e4, p4.same (R13.trans z), h4, upd_same, same_th th1 (S13.trans z), same_th th2 (S13.trans z), fun H' s => fin _ ((S13.trans z).trans s)⟩
end
end N

set_option maxHeartbeats 4000000
namespace N
open PySem L2
theorem same_but {H1 H3 H4 : Hp} {q : Addr} (s : Same H1 H3) (b : But q H3 H4) (n : H1 q = none) : Same H1 H4 := fun a o e => b a o (s a o e) (ne_of_none e n)
def spLaw (K : PySem.W.Frag) : Sp := fun vs H Q _ => ∃ (a : Addr) (ns : List Int), vs = [.ref a] ∧ SqL K H a (ns.map V.int) ∧ ns.length ≤ 63 ∧ ∀ H', Q (.bl true) H'
section
variable {P : Program} {w : World} {K : PySem.W.Frag} {mg : Str → Option Value} {base : Heap} {C S : Nat → Addr}
abbrev s_law : Stmt := top 56
theorem sc_law : FnScope ["_law_script", "_law_k"] ["_law_script"] (defScope s_law) := ⟨rfl, rfl, rfl, by decide +kernel, rfl, by decide +kernel, by decide +kernel⟩
theorem ok_law {f : Addr} {fd : FuncData} (B : Blts mg) (F : Fun K "law" "law" s_law f fd) (h_law_right : HasG P w K mg base "_law_right" 4 ["_law_pot_here"] spRight) (h_law_pot : Has P w K mg base "_law_pot" 1 ["_law_script", "_law_k"] (spPot K)) : FnG P w K mg base CX0 5 f fd ["_law_script"] (spLaw K) := by
  refine F.okG sc_law (fun vs H Q E h => ?_) (fun cdv A outer s H vs Q E hG hr h => ?_)
  · obtain ⟨_, _, rfl, _⟩ := h
    rfl
  · obtain ⟨a, ns, rfl, hS, hn, k⟩ := h
    refine ⟨_, (pss_one (ps_ret (pe_callB (cr_all rfl) (by rfl) B.n_all (by decide +kernel) (pa_cons (pe_lc (own := [("_law_k", 1)]) rfl sc_law.nd (pi_range1 (by rfl) B.n_range (pa_cons (pe_callB (call_max2 rfl) (by rfl) B.n_max (by decide +kernel) (pa_cons pe_int (pa_cons (pe_callB (call_min2 rfl) (by rfl) B.n_min (by decide +kernel) (pa_cons (pe_callB call_len (by rfl) B.n_len PySem.boot_len (pa_cons (pv 0) pa_nil)) (pa_cons pe_int pa_nil))) pa_nil))) pa_nil)) (blkOk_by (own := [("_law_k", 1)]) (N := ["_law_script", "_law_k"]) (sc := defScope s_law) (by decide +kernel)) (fun _ _ _ _ _ => by exact (pg_name (i := 1) sc_law.nd rfl (Or.inl rfl))) (fun _ _ _ _ _ => by exact pts_nil) (fun _ _ _ _ _ => by exact (pe_hasG h_law_right (hr.mono (by decide)) hG (pa_cons (pe_has h_law_pot (hr.mono (by decide)) (pa_cons (pv 0) (pa_cons (pv 1) pa_nil))) pa_nil)))) pa_nil)))), ?_⟩
    obtain ⟨n, hn0, hn1, hne⟩ : ∃ n : Nat, n < 1000 ∧ n ≤ 63 ∧ (if (if (6 : Int) < (ns.length : Int) then (6 : Int) else (ns.length : Int)) > 1 then (if (6 : Int) < (ns.length : Int) then (6 : Int) else (ns.length : Int)) else 1) = (n : Int) := by
      refine ⟨(if (if (6 : Int) < (ns.length : Int) then (6 : Int) else (ns.length : Int)) > 1 then (if (6 : Int) < (ns.length : Int) then (6 : Int) else (ns.length : Int)) else 1).toNat, ?_, ?_, ?_⟩ <;> (repeat' split) <;> omega
    refine ⟨_, rfl, _, ns.length, rfl, .inl ⟨_, hS, by rw [List.length_map]⟩, _, _, rfl, _, _, rfl, ?_⟩
    rw [hne]
    refine ⟨_, rfl, by omega, by omega, fun D nD => ?_⟩
    rw [Int.toNat_natCast]
    refine lc_map walk_range (fun _ => .bl true) nD (by omega) (fun _ _ => trivial) ?_ ?_
    · rintro i x H1 H2 hi s1 ⟨rfl, rfl⟩ R hR
      refine ⟨rfl, ?_⟩
      refine ⟨_, rfl, _, rfl, a, ns, i, ?_, s1.seq hS, hn, by omega, fun q H3 nq hp s3 => ?_⟩
      · show [V.ref a, V.int (0 + (i : Int))] = _
        rw [Int.zero_add]
      · exact ⟨q, rfl, hp, fun H4 e4 => hR H4 (same_but s3 e4 nq)⟩
    · intro H1 s1 hD
      refine ⟨D, (List.range n).map fun _ => true, rfl, SqL.of (by rw [List.map_map]; exact hD), ?_⟩
      rw [show ((List.range n).map fun _ => true).all id = true by simp]
      exact k _
/-- all of it, over what the top has written -/
theorem all_ok {f : Addr} {fd : FuncData} (B : Blts mg) (T : Tx K mg C S) (F1 : FunAt K mg "_law_pot" "_law_pot" s__law_pot) (F2 : FunAt K mg "_law_draw" "_law_draw" s__law_draw) (F3 : FunAt K mg "_law_pick" "_law_pick" s__law_pick) (F4 : FunAt K mg "_law_thing" "_law_thing" s__law_thing)
    (F5 : FunAt K mg "_law_by_value" "_law_by_value" s__law_by_value) (F6 : FunAt K mg "_law_by_position" "_law_by_position" s__law_by_position) (F7 : FunAt K mg "_law_by_name" "_law_by_name" s__law_by_name) (F8 : FunAt K mg "_law_others" "_law_others" s__law_others)
    (F9 : FunAt K mg "_law_marks" "_law_marks" s__law_marks) (F10 : FunAt K mg "_law_base_right" "_law_base_right" s__law_base_right) (F11 : FunAt K mg "_law_fields_right" "_law_fields_right" s__law_fields_right) (F12 : FunAt K mg "_law_raised" "_law_raised" s__law_raised) (F13 : FunAt K mg "_law_right" "_law_right" s__law_right)
    (F : Fun K "law" "law" s_law f fd) : FnG P w K mg base CX0 5 f fd ["_law_script"] (spLaw K) := by
  have hd := h_law_draw (P := P) (w := w) (base := base) B F2
  have hk := h_law_pick (P := P) (w := w) (base := base) (K := K) B F3 hd
  exact ok_law B F (h_law_right B T F13 (h_law_thing B F4 hk) (h_law_by_value T F5) (h_law_by_position T F6) (h_law_by_name T F7) (h_law_others T F8) (h_law_marks B T F9) (h_law_base_right B T F10) (h_law_raised B T F12) (h_law_fields_right B T F11)) (h_law_pot B F1)
end
theorem all_mk {l : PySem.W.OpenLaw} {w : World} {K : PySem.W.Frag} {h : Heap} {mg : Str → Option Value} {C S : Nat → Addr} {fa f : Addr} (X : K.In h) (G : h.Ns mainGlobals mg) (hfa : mg "law" = some (.ref fa))
    {od an : Option Addr} {sl : Array (Option Value)} {oc kV dc pm cd ct : Value}
    (a : PySem.W.nsIn K mainGlobals "law" = some (some (.ref f))) (lk : K.lookup f = some ⟨oc, od, .func (PySem.W.fnOf "law" "law" (defArgs s_law) (defBody s_law) (defScope s_law) .none kV dc pm an cd ct), sl⟩) (c : PySem.W.codeIn K cd "law" = true) (k : PySem.W.keepIn K (.ref f) = true)
    (B : Blts mg) (T : Tx K mg C S) (F1 : FunAt K mg "_law_pot" "_law_pot" s__law_pot) (F2 : FunAt K mg "_law_draw" "_law_draw" s__law_draw) (F3 : FunAt K mg "_law_pick" "_law_pick" s__law_pick) (F4 : FunAt K mg "_law_thing" "_law_thing" s__law_thing)
    (F5 : FunAt K mg "_law_by_value" "_law_by_value" s__law_by_value) (F6 : FunAt K mg "_law_by_position" "_law_by_position" s__law_by_position) (F7 : FunAt K mg "_law_by_name" "_law_by_name" s__law_by_name) (F8 : FunAt K mg "_law_others" "_law_others" s__law_others)
    (F9 : FunAt K mg "_law_marks" "_law_marks" s__law_marks) (F10 : FunAt K mg "_law_base_right" "_law_base_right" s__law_base_right) (F11 : FunAt K mg "_law_fields_right" "_law_fields_right" s__law_fields_right) (F12 : FunAt K mg "_law_raised" "_law_raised" s__law_raised) (F13 : FunAt K mg "_law_right" "_law_right" s__law_right) :
    ∃ fd : FuncData, (∀ (s : Shared) (v : Value), BindsTo s fd ⟨[v], []⟩ [("_law_script", v)]) ∧ ∀ base : Heap, K.In base → base.Ns mainGlobals mg → FnG l.prog w K mg base CX0 5 fa fd ["_law_script"] (spLaw K) := by
  have e := hfa.symm.trans (PySem.W.mg_of X G a)
  cases e
  exact ⟨_, fun s v => .of_eq rfl, fun base _ _ => all_ok B T F1 F2 F3 F4 F5 F6 F7 F8 F9 F10 F11 F12 F13 (fun_mk (st := s_law) lk c k)⟩
/-! ### the classes, from what the top has written -/
def nwOf : Nat → String
  | 0 => "ValueError.__new__"
  | 1 => "LookupError.__new__"
  | 2 => "RuntimeError.__new__"
  | _ => "ArithmeticError.__new__"
theorem basefacts (b : Nat) : ∃ ini, ExcBaseFacts (bt b) (nwOf b) ini (tl b) ∧ StoreFacts (bt b) (tl b) "object.__setattr__" "object" := by
  match b with
  | 0 => exact ⟨_, F.excBase_ValueError, F.store_ValueError⟩
  | 1 => exact ⟨_, F.excBase_LookupError, F.store_LookupError⟩
  | 2 => exact ⟨_, F.excBase_RuntimeError, F.store_RuntimeError⟩
  | n + 3 => exact ⟨_, F.excBase_ArithmeticError, F.store_ArithmeticError⟩
theorem tail_ok (b : Nat) (S : Addr) : PySem.W.excTail (tl b) (.ref S :: tl b) = true := by
  match b with
  | 0 => rfl
  | 1 => rfl
  | 2 => rfl
  | n + 3 => rfl
structure CB (K : PySem.W.Frag) (C S : Addr) (b : Nat) : Prop where
  mro : ∃ cd, PySem.W.clsIn K C = some cd ∧ cd.mro = .ref C :: .ref S :: tl b
  ex : ExcC K C
  xf : XfC K C
  tc : PySem.W.typeIn K (.ref C) = some (.type "type")
section
variable {K : PySem.W.Frag} {mg : Str → Option Value} {h : Heap} {x qual : Str} {C fI N S : Addr} {b : Nat} {st : Stmt} {nm q : Str} {bs bm : List Value} {sn : List Str} {sub : List Value} {ab : Bool} {col : Option Bool} {dd : Option Addr} {k0 k1 k2 k3 k5 : Option Value} {nw : String}
  {od an : Option Addr} {sl : Array (Option Value)} {oc kV dc pm cd ct : Value}
theorem cb_mk (xL : K.lookup C = some (excClassObj nm q C N bs bm true sn sub ab col dd k0 k1 k2 k3 k5 nw)) (hb : bm = .ref S :: tl b) (ga : PySem.W.findIn K (.ref C) "__getattribute__" = some (some (.builtin "BaseException.__getattribute__"))) (gg : PySem.W.findIn K (.ref C) "__getattr__" = some none)
    (eC : PySem.W.subIn K (.ref C) (.type "BaseException") = some true) (hC : PySem.W.hasDictIn K C = true) (ha : PySem.W.findIn K (.ref C) "__class__" = some (some (.builtin "object.__class__"))) (hm : PySem.W.mroIn K C (.type "object") = some true) (tC : PySem.W.typeIn K (.ref C) = some (.type "type"))
    (hn : PySem.W.specialIn K (.builtin "object.__class__") "__get__" = some (some (.builtin "getset_descriptor.__get__"))) (ht : PySem.W.takesIn K (.builtin "object.__class__") = some true) : CB K C S b := by
  subst hb
  exact ⟨⟨_, by unfold PySem.W.clsIn; rw [xL] <;> rfl, rfl⟩, ⟨ga, gg, eC, hC, ha, hn, ht, hm⟩, ⟨ga, gg, eC, hC⟩, tC⟩
theorem ei_mk (X : K.In h) (G : h.Ns mainGlobals mg) (fs : List Str) (aC : PySem.W.nsIn K mainGlobals x = some (some (.ref C))) (xL : K.lookup C = some (excClassObj nm q C N bs bm true sn sub ab col dd k0 k1 k2 k3 k5 nw)) (hb : bm = .ref S :: tl b) (hnw : nw = nwOf b) (kC : PySem.W.keepIn K (.ref C) = true) (B : CB K C S b)
    (sa : PySem.W.findIn K (.ref C) "__setattr__" = some (some (.builtin "object.__setattr__"))) (no : ∀ f ∈ fs, PySem.W.findIn K (.ref C) f = some none) (a1 : PySem.W.findIn K (.ref C) "__init__" = some (some (.ref fI))) (t1 : PySem.W.typeIn K (.ref fI) = some (.type "function"))
    (l : K.lookup fI = some ⟨oc, od, .func (PySem.W.fnOf "__init__" qual (defArgs st) (defBody st) (defScope st) .none kV dc pm an cd ct), sl⟩) (c : PySem.W.codeIn K cd qual = true) (k : PySem.W.keepIn K (.ref fI) = true) : EI K mg x C st qual fs := by
  subst hb hnw
  obtain ⟨ini, F1, F2⟩ := basefacts b
  exact ⟨⟨PySem.W.mg_of X G aC, kC, _, _, ini, _, fI, _, ⟨⟨_, _, _, _, _, _, _, _, _, _, _, _, _, _, _, xL, tail_ok b S⟩, sa, B.xf.exC, B.tc, kC, F2, F1⟩, a1, t1, fun_mk l c k⟩, no⟩
end
def cF (l : List Addr) (i : Nat) : Addr := l.getD i 0
theorem getD_inj {l : List Addr} (n : l.Nodup) {i j : Nat} (hi : i < l.length) (hj : j < l.length) (e : cF l i = cF l j) : i = j := by
  unfold cF at e
  rw [List.getD_eq_getElem?_getD, List.getD_eq_getElem?_getD, List.getElem?_eq_getElem hi, List.getElem?_eq_getElem hj] at e
  exact (List.getElem_inj n).mp e
theorem getD_in {l : List Addr} {i : Nat} (hi : i < l.length) : cF l i ∈ l := by
  unfold cF
  rw [List.getD_eq_getElem?_getD, List.getElem?_eq_getElem hi]
  exact List.getElem_mem hi

theorem cl_mk {K : PySem.W.Frag} {c0 c1 c2 c3 c4 c5 c6 c7 c8 c9 c10 c11 c12 c13 c14 c15 c16 c17 c18 c19 c20 c21 c22 c23 c24 c25 c26 c27 c28 c29 c30 c31 c32 c33 c34 c35 c36 t0 t1 t2 t3 : Addr} (nd : ([c0, c1, c2, c3, c4, c5, c6, c7, c8, c9, c10, c11, c12, c13, c14, c15, c16, c17, c18, c19, c20, c21, c22, c23, c24, c25, c26, c27, c28, c29, c30, c31, c32, c33, c34, c35, c36] ++ [t0, t1, t2, t3]).Nodup)
    (B0 : CB K c0 t0 0)
    (B1 : CB K c1 t0 0)
    (B2 : CB K c2 t0 0)
    (B3 : CB K c3 t0 0)
    (B4 : CB K c4 t0 0)
    (B5 : CB K c5 t0 0)
    (B6 : CB K c6 t0 0)
    (B7 : CB K c7 t0 0)
    (B8 : CB K c8 t0 0)
    (B9 : CB K c9 t0 0)
    (B10 : CB K c10 t0 0)
    (B11 : CB K c11 t0 0)
    (B12 : CB K c12 t0 0)
    (B13 : CB K c13 t0 0)
    (B14 : CB K c14 t0 0)
    (B15 : CB K c15 t0 0)
    (B16 : CB K c16 t0 0)
    (B17 : CB K c17 t0 0)
    (B18 : CB K c18 t0 0)
    (B19 : CB K c19 t0 0)
    (B20 : CB K c20 t0 0)
    (B21 : CB K c21 t0 0)
    (B22 : CB K c22 t0 0)
    (B23 : CB K c23 t2 2)
    (B24 : CB K c24 t1 1)
    (B25 : CB K c25 t1 1)
    (B26 : CB K c26 t1 1)
    (B27 : CB K c27 t1 1)
    (B28 : CB K c28 t1 1)
    (B29 : CB K c29 t0 0)
    (B30 : CB K c30 t0 0)
    (B31 : CB K c31 t2 2)
    (B32 : CB K c32 t0 0)
    (B33 : CB K c33 t2 2)
    (B34 : CB K c34 t3 3)
    (B35 : CB K c35 t0 0)
    (B36 : CB K c36 t2 2)
    (D0 : PySem.W.isClsIn K t0 = true ∧ PySem.W.typeIn K (.ref t0) = some (.type "type") ∧ PySem.W.subIn K (.ref t0) (.type "BaseException") = some true)
    (D1 : PySem.W.isClsIn K t1 = true ∧ PySem.W.typeIn K (.ref t1) = some (.type "type") ∧ PySem.W.subIn K (.ref t1) (.type "BaseException") = some true)
    (D2 : PySem.W.isClsIn K t2 = true ∧ PySem.W.typeIn K (.ref t2) = some (.type "type") ∧ PySem.W.subIn K (.ref t2) (.type "BaseException") = some true)
    (D3 : PySem.W.isClsIn K t3 = true ∧ PySem.W.typeIn K (.ref t3) = some (.type "type") ∧ PySem.W.subIn K (.ref t3) (.type "BaseException") = some true)
    : Cl K (cF [c0, c1, c2, c3, c4, c5, c6, c7, c8, c9, c10, c11, c12, c13, c14, c15, c16, c17, c18, c19, c20, c21, c22, c23, c24, c25, c26, c27, c28, c29, c30, c31, c32, c33, c34, c35, c36]) (cF [t0, t1, t2, t3]) := by
  obtain ⟨n1, n2, n3⟩ := List.nodup_append.mp nd
  refine ⟨?_, ?_, ?_, ?_, ?_, fun i j hi hj e => getD_inj n1 hi hj e, fun i b hi hb e => n3 _ (getD_in hi) _ (getD_in hb) e, fun b c hb hc e => getD_inj n2 hb hc e⟩
  · intro i hi
    rcases (show i = 0 ∨ i = 1 ∨ i = 2 ∨ i = 3 ∨ i = 4 ∨ i = 5 ∨ i = 6 ∨ i = 7 ∨ i = 8 ∨ i = 9 ∨ i = 10 ∨ i = 11 ∨ i = 12 ∨ i = 13 ∨ i = 14 ∨ i = 15 ∨ i = 16 ∨ i = 17 ∨ i = 18 ∨ i = 19 ∨ i = 20 ∨ i = 21 ∨ i = 22 ∨ i = 23 ∨ i = 24 ∨ i = 25 ∨ i = 26 ∨ i = 27 ∨ i = 28 ∨ i = 29 ∨ i = 30 ∨ i = 31 ∨ i = 32 ∨ i = 33 ∨ i = 34 ∨ i = 35 ∨ i = 36 by omega) with rfl | rfl | rfl | rfl | rfl | rfl | rfl | rfl | rfl | rfl | rfl | rfl | rfl | rfl | rfl | rfl | rfl | rfl | rfl | rfl | rfl | rfl | rfl | rfl | rfl | rfl | rfl | rfl | rfl | rfl | rfl | rfl | rfl | rfl | rfl | rfl | rfl
    · exact B0.mro
    · exact B1.mro
    · exact B2.mro
    · exact B3.mro
    · exact B4.mro
    · exact B5.mro
    · exact B6.mro
    · exact B7.mro
    · exact B8.mro
    · exact B9.mro
    · exact B10.mro
    · exact B11.mro
    · exact B12.mro
    · exact B13.mro
    · exact B14.mro
    · exact B15.mro
    · exact B16.mro
    · exact B17.mro
    · exact B18.mro
    · exact B19.mro
    · exact B20.mro
    · exact B21.mro
    · exact B22.mro
    · exact B23.mro
    · exact B24.mro
    · exact B25.mro
    · exact B26.mro
    · exact B27.mro
    · exact B28.mro
    · exact B29.mro
    · exact B30.mro
    · exact B31.mro
    · exact B32.mro
    · exact B33.mro
    · exact B34.mro
    · exact B35.mro
    · exact B36.mro
  · intro i hi
    rcases (show i = 0 ∨ i = 1 ∨ i = 2 ∨ i = 3 ∨ i = 4 ∨ i = 5 ∨ i = 6 ∨ i = 7 ∨ i = 8 ∨ i = 9 ∨ i = 10 ∨ i = 11 ∨ i = 12 ∨ i = 13 ∨ i = 14 ∨ i = 15 ∨ i = 16 ∨ i = 17 ∨ i = 18 ∨ i = 19 ∨ i = 20 ∨ i = 21 ∨ i = 22 ∨ i = 23 ∨ i = 24 ∨ i = 25 ∨ i = 26 ∨ i = 27 ∨ i = 28 ∨ i = 29 ∨ i = 30 ∨ i = 31 ∨ i = 32 ∨ i = 33 ∨ i = 34 ∨ i = 35 ∨ i = 36 by omega) with rfl | rfl | rfl | rfl | rfl | rfl | rfl | rfl | rfl | rfl | rfl | rfl | rfl | rfl | rfl | rfl | rfl | rfl | rfl | rfl | rfl | rfl | rfl | rfl | rfl | rfl | rfl | rfl | rfl | rfl | rfl | rfl | rfl | rfl | rfl | rfl | rfl
    · exact B0.ex
    · exact B1.ex
    · exact B2.ex
    · exact B3.ex
    · exact B4.ex
    · exact B5.ex
    · exact B6.ex
    · exact B7.ex
    · exact B8.ex
    · exact B9.ex
    · exact B10.ex
    · exact B11.ex
    · exact B12.ex
    · exact B13.ex
    · exact B14.ex
    · exact B15.ex
    · exact B16.ex
    · exact B17.ex
    · exact B18.ex
    · exact B19.ex
    · exact B20.ex
    · exact B21.ex
    · exact B22.ex
    · exact B23.ex
    · exact B24.ex
    · exact B25.ex
    · exact B26.ex
    · exact B27.ex
    · exact B28.ex
    · exact B29.ex
    · exact B30.ex
    · exact B31.ex
    · exact B32.ex
    · exact B33.ex
    · exact B34.ex
    · exact B35.ex
    · exact B36.ex
  · intro i hi
    rcases (show i = 0 ∨ i = 1 ∨ i = 2 ∨ i = 3 ∨ i = 4 ∨ i = 5 ∨ i = 6 ∨ i = 7 ∨ i = 8 ∨ i = 9 ∨ i = 10 ∨ i = 11 ∨ i = 12 ∨ i = 13 ∨ i = 14 ∨ i = 15 ∨ i = 16 ∨ i = 17 ∨ i = 18 ∨ i = 19 ∨ i = 20 ∨ i = 21 ∨ i = 22 ∨ i = 23 ∨ i = 24 ∨ i = 25 ∨ i = 26 ∨ i = 27 ∨ i = 28 ∨ i = 29 ∨ i = 30 ∨ i = 31 ∨ i = 32 ∨ i = 33 ∨ i = 34 ∨ i = 35 ∨ i = 36 by omega) with rfl | rfl | rfl | rfl | rfl | rfl | rfl | rfl | rfl | rfl | rfl | rfl | rfl | rfl | rfl | rfl | rfl | rfl | rfl | rfl | rfl | rfl | rfl | rfl | rfl | rfl | rfl | rfl | rfl | rfl | rfl | rfl | rfl | rfl | rfl | rfl | rfl
    · exact B0.xf
    · exact B1.xf
    · exact B2.xf
    · exact B3.xf
    · exact B4.xf
    · exact B5.xf
    · exact B6.xf
    · exact B7.xf
    · exact B8.xf
    · exact B9.xf
    · exact B10.xf
    · exact B11.xf
    · exact B12.xf
    · exact B13.xf
    · exact B14.xf
    · exact B15.xf
    · exact B16.xf
    · exact B17.xf
    · exact B18.xf
    · exact B19.xf
    · exact B20.xf
    · exact B21.xf
    · exact B22.xf
    · exact B23.xf
    · exact B24.xf
    · exact B25.xf
    · exact B26.xf
    · exact B27.xf
    · exact B28.xf
    · exact B29.xf
    · exact B30.xf
    · exact B31.xf
    · exact B32.xf
    · exact B33.xf
    · exact B34.xf
    · exact B35.xf
    · exact B36.xf
  · intro i hi
    rcases (show i = 0 ∨ i = 1 ∨ i = 2 ∨ i = 3 ∨ i = 4 ∨ i = 5 ∨ i = 6 ∨ i = 7 ∨ i = 8 ∨ i = 9 ∨ i = 10 ∨ i = 11 ∨ i = 12 ∨ i = 13 ∨ i = 14 ∨ i = 15 ∨ i = 16 ∨ i = 17 ∨ i = 18 ∨ i = 19 ∨ i = 20 ∨ i = 21 ∨ i = 22 ∨ i = 23 ∨ i = 24 ∨ i = 25 ∨ i = 26 ∨ i = 27 ∨ i = 28 ∨ i = 29 ∨ i = 30 ∨ i = 31 ∨ i = 32 ∨ i = 33 ∨ i = 34 ∨ i = 35 ∨ i = 36 by omega) with rfl | rfl | rfl | rfl | rfl | rfl | rfl | rfl | rfl | rfl | rfl | rfl | rfl | rfl | rfl | rfl | rfl | rfl | rfl | rfl | rfl | rfl | rfl | rfl | rfl | rfl | rfl | rfl | rfl | rfl | rfl | rfl | rfl | rfl | rfl | rfl | rfl
    · exact B0.tc
    · exact B1.tc
    · exact B2.tc
    · exact B3.tc
    · exact B4.tc
    · exact B5.tc
    · exact B6.tc
    · exact B7.tc
    · exact B8.tc
    · exact B9.tc
    · exact B10.tc
    · exact B11.tc
    · exact B12.tc
    · exact B13.tc
    · exact B14.tc
    · exact B15.tc
    · exact B16.tc
    · exact B17.tc
    · exact B18.tc
    · exact B19.tc
    · exact B20.tc
    · exact B21.tc
    · exact B22.tc
    · exact B23.tc
    · exact B24.tc
    · exact B25.tc
    · exact B26.tc
    · exact B27.tc
    · exact B28.tc
    · exact B29.tc
    · exact B30.tc
    · exact B31.tc
    · exact B32.tc
    · exact B33.tc
    · exact B34.tc
    · exact B35.tc
    · exact B36.tc
  · intro b hb
    rcases (show b = 0 ∨ b = 1 ∨ b = 2 ∨ b = 3 by omega) with rfl | rfl | rfl | rfl
    · exact D0
    · exact D1
    · exact D2
    · exact D3
end N

set_option maxHeartbeats 4000000
namespace N
open PySem L2
section
variable {K : PySem.W.Frag} {mg : Str → Option Value} {h : Heap} {x qual : Str} {C fI N S : Addr} {b : Nat} {st : Stmt} {nm q : Str} {bs bm : List Value} {sn : List Str} {sub : List Value} {ab : Bool} {col : Option Bool} {dd : Option Addr} {k0 k1 k2 k3 k5 : Option Value} {nw : String}
  {od an : Option Addr} {sl : Array (Option Value)} {oc kV dc pm cd ct : Value}
theorem own_mk {fs : List Str} (X : K.In h) (G : h.Ns mainGlobals mg) (aC : PySem.W.nsIn K mainGlobals x = some (some (.ref C))) (xL : K.lookup C = some (excClassObj nm q C N bs bm true sn sub ab col dd k0 k1 k2 k3 k5 nw)) (hb : bm = .ref S :: tl b) (hnw : nw = nwOf b) (kC : PySem.W.keepIn K (.ref C) = true)
    (ga : PySem.W.findIn K (.ref C) "__getattribute__" = some (some (.builtin "BaseException.__getattribute__"))) (gg : PySem.W.findIn K (.ref C) "__getattr__" = some none) (eC : PySem.W.subIn K (.ref C) (.type "BaseException") = some true) (hC : PySem.W.hasDictIn K C = true)
    (ha : PySem.W.findIn K (.ref C) "__class__" = some (some (.builtin "object.__class__"))) (hm : PySem.W.mroIn K C (.type "object") = some true) (tC : PySem.W.typeIn K (.ref C) = some (.type "type"))
    (hn : PySem.W.specialIn K (.builtin "object.__class__") "__get__" = some (some (.builtin "getset_descriptor.__get__"))) (ht : PySem.W.takesIn K (.builtin "object.__class__") = some true)
    (sa : PySem.W.findIn K (.ref C) "__setattr__" = some (some (.builtin "object.__setattr__"))) (no : ∀ f ∈ fs, PySem.W.findIn K (.ref C) f = some none) (a1 : PySem.W.findIn K (.ref C) "__init__" = some (some (.ref fI))) (t1 : PySem.W.typeIn K (.ref fI) = some (.type "function"))
    (l : K.lookup fI = some ⟨oc, od, .func (PySem.W.fnOf "__init__" qual (defArgs st) (defBody st) (defScope st) .none kV dc pm an cd ct), sl⟩) (c : PySem.W.codeIn K cd qual = true) (k : PySem.W.keepIn K (.ref fI) = true) : CB K C S b ∧ EI K mg x C st qual fs :=
  have B := cb_mk xL hb ga gg eC hC ha hm tC hn ht
  ⟨B, ei_mk X G fs aC xL hb hnw kC B sa no a1 t1 l c k⟩
theorem plain_mk (X : K.In h) (G : h.Ns mainGlobals mg) (aC : PySem.W.nsIn K mainGlobals x = some (some (.ref C))) (xL : K.lookup C = some (excClassObj nm q C N bs bm true sn sub ab col dd k0 k1 k2 k3 k5 nw)) (hb : bm = .ref S :: tl b) (kC : PySem.W.keepIn K (.ref C) = true)
    (ga : PySem.W.findIn K (.ref C) "__getattribute__" = some (some (.builtin "BaseException.__getattribute__"))) (gg : PySem.W.findIn K (.ref C) "__getattr__" = some none) (eC : PySem.W.subIn K (.ref C) (.type "BaseException") = some true) (hC : PySem.W.hasDictIn K C = true)
    (ha : PySem.W.findIn K (.ref C) "__class__" = some (some (.builtin "object.__class__"))) (hm : PySem.W.mroIn K C (.type "object") = some true) (tC : PySem.W.typeIn K (.ref C) = some (.type "type"))
    (hn : PySem.W.specialIn K (.builtin "object.__class__") "__get__" = some (some (.builtin "getset_descriptor.__get__"))) (ht : PySem.W.takesIn K (.builtin "object.__class__") = some true)
    (ex : PySem.W.excIn K C (tl b) (nwOf b) = true) : CB K C S b ∧ PySem.W.excIn K C (tl b) (nwOf b) = true ∧ mg x = some (.ref C) ∧ PySem.W.keepIn K (.ref C) = true :=
  ⟨cb_mk xL hb ga gg eC hC ha hm tC hn ht, ex, PySem.W.mg_of X G aC, kC⟩
theorem base_mk (X : K.In h) (G : h.Ns mainGlobals mg) (a : PySem.W.nsIn K mainGlobals x = some (some (.ref S))) (i : PySem.W.isClsIn K S = true) (t : PySem.W.typeIn K (.ref S) = some (.type "type")) (s : PySem.W.subIn K (.ref S) (.type "BaseException") = some true) :
    mg x = some (.ref S) ∧ PySem.W.isClsIn K S = true ∧ PySem.W.typeIn K (.ref S) = some (.type "type") ∧ PySem.W.subIn K (.ref S) (.type "BaseException") = some true := ⟨PySem.W.mg_of X G a, i, t, s⟩
end

theorem tx_mk {K : PySem.W.Frag} {mg : Str → Option Value} {c0 c1 c2 c3 c4 c5 c6 c7 c8 c9 c10 c11 c12 c13 c14 c15 c16 c17 c18 c19 c20 c21 c22 c23 c24 c25 c26 c27 c28 c29 c30 c31 c32 c33 c34 c35 c36 t0 t1 t2 t3 : Addr}
    (D0 : mg "StitchError" = some (.ref t0) ∧ PySem.W.isClsIn K t0 = true ∧ PySem.W.typeIn K (.ref t0) = some (.type "type") ∧ PySem.W.subIn K (.ref t0) (.type "BaseException") = some true)
    (D1 : mg "MissingError" = some (.ref t1) ∧ PySem.W.isClsIn K t1 = true ∧ PySem.W.typeIn K (.ref t1) = some (.type "type") ∧ PySem.W.subIn K (.ref t1) (.type "BaseException") = some true)
    (D2 : mg "StateError" = some (.ref t2) ∧ PySem.W.isClsIn K t2 = true ∧ PySem.W.typeIn K (.ref t2) = some (.type "type") ∧ PySem.W.subIn K (.ref t2) (.type "BaseException") = some true)
    (D3 : mg "LimitError" = some (.ref t3) ∧ PySem.W.isClsIn K t3 = true ∧ PySem.W.typeIn K (.ref t3) = some (.type "type") ∧ PySem.W.subIn K (.ref t3) (.type "BaseException") = some true)
    (E0 : CB K c0 t0 0 ∧ EI K mg "InvalidName" c0 s_InvalidName___init__ "InvalidName.__init__" ["value"])
    (E1 : CB K c1 t0 0 ∧ EI K mg "InvalidNumber" c1 s_InvalidNumber___init__ "InvalidNumber.__init__" ["value"])
    (E2 : CB K c2 t0 0 ∧ EI K mg "InvalidKind" c2 s_InvalidKind___init__ "InvalidKind.__init__" ["value"])
    (E3 : CB K c3 t0 0 ∧ EI K mg "InvalidWord" c3 s_InvalidWord___init__ "InvalidWord.__init__" ["value"])
    (E4 : CB K c4 t0 0 ∧ EI K mg "InvalidCounts" c4 s_InvalidCounts___init__ "InvalidCounts.__init__" ["value"])
    (E5 : CB K c5 t0 0 ∧ EI K mg "InvalidSection" c5 s_InvalidSection___init__ "InvalidSection.__init__" ["value"])
    (E6 : CB K c6 t0 0 ∧ EI K mg "InvalidEdge" c6 s_InvalidEdge___init__ "InvalidEdge.__init__" ["value"])
    (E7 : CB K c7 t0 0 ∧ EI K mg "InvalidWay" c7 s_InvalidWay___init__ "InvalidWay.__init__" ["value"])
    (E8 : CB K c8 t0 0 ∧ EI K mg "InvalidSketch" c8 s_InvalidSketch___init__ "InvalidSketch.__init__" ["value"])
    (E9 : CB K c9 t0 0 ∧ EI K mg "InvalidPattern" c9 s_InvalidPattern___init__ "InvalidPattern.__init__" ["value"])
    (E10 : CB K c10 t0 0 ∧ EI K mg "InvalidForm" c10 s_InvalidForm___init__ "InvalidForm.__init__" ["value"])
    (E11 : CB K c11 t0 0 ∧ EI K mg "InvalidPoint" c11 s_InvalidPoint___init__ "InvalidPoint.__init__" ["value"])
    (E12 : CB K c12 t0 0 ∧ EI K mg "InvalidFamily" c12 s_InvalidFamily___init__ "InvalidFamily.__init__" ["value"])
    (E13 : CB K c13 t0 0 ∧ EI K mg "InvalidCommand" c13 s_InvalidCommand___init__ "InvalidCommand.__init__" ["value"])
    (E14 : CB K c14 t0 0 ∧ EI K mg "InvalidParts" c14 s_InvalidParts___init__ "InvalidParts.__init__" ["position"])
    (E15 : CB K c15 t0 0 ∧ EI K mg "InvalidTexts" c15 s_InvalidTexts___init__ "InvalidTexts.__init__" ["position"])
    (E16 : CB K c16 t0 0 ∧ EI K mg "InvalidRows" c16 s_InvalidRows___init__ "InvalidRows.__init__" ["position"])
    (E17 : CB K c17 t0 0 ∧ EI K mg "InvalidCastOn" c17 s_InvalidCastOn___init__ "InvalidCastOn.__init__" ["position"])
    (E18 : CB K c18 t0 0 ∧ EI K mg "InvalidSteps" c18 s_InvalidSteps___init__ "InvalidSteps.__init__" ["position"])
    (E19 : CB K c19 t0 0 ∧ EI K mg "InvalidBlock" c19 s_InvalidBlock___init__ "InvalidBlock.__init__" ["position"])
    (E20 : CB K c20 t0 0 ∧ EI K mg "InvalidStretches" c20 s_InvalidStretches___init__ "InvalidStretches.__init__" ["position"])
    (E21 : CB K c21 t0 0 ∧ EI K mg "InvalidSchedules" c21 s_InvalidSchedules___init__ "InvalidSchedules.__init__" ["position"])
    (E22 : CB K c22 t0 0 ∧ EI K mg "InvalidCell" c22 s_InvalidCell___init__ "InvalidCell.__init__" ["position"])
    (E23 : CB K c23 t2 2 ∧ EI K mg "BelowZero" c23 s_BelowZero___init__ "BelowZero.__init__" ["position"])
    (E24 : CB K c24 t1 1 ∧ EI K mg "UnknownKind" c24 s_UnknownKind___init__ "UnknownKind.__init__" ["name"])
    (E25 : CB K c25 t1 1 ∧ EI K mg "NoBack" c25 s_NoBack___init__ "NoBack.__init__" ["name"])
    (E26 : CB K c26 t1 1 ∧ EI K mg "NoMirror" c26 s_NoMirror___init__ "NoMirror.__init__" ["name"])
    (E27 : CB K c27 t1 1 ∧ EI K mg "UnknownPattern" c27 s_UnknownPattern___init__ "UnknownPattern.__init__" ["name"])
    (E28 : CB K c28 t1 1 ∧ EI K mg "NoRow" c28 s_NoRow___init__ "NoRow.__init__" ["number"])
    (E29 : CB K c29 t0 0 ∧ EI K mg "InvalidText" c29 s_InvalidText___init__ "InvalidText.__init__" ["problem"])
    (E30 : CB K c30 t0 0 ∧ EI K mg "InvalidLine" c30 s_InvalidLine___init__ "InvalidLine.__init__" ["line"])
    (E31 : CB K c31 t2 2 ∧ EI K mg "NotThrough" c31 s_NotThrough___init__ "NotThrough.__init__" ["outcome"])
    (E32 : CB K c32 t0 0 ∧ EI K mg "InvalidBook" c32 s_InvalidBook___init__ "InvalidBook.__init__" ["problem", "name"])
    (E33 : CB K c33 t2 2 ∧ EI K mg "NotFitting" c33 s_NotFitting___init__ "NotFitting.__init__" ["section", "loops"])
    (E34 : CB K c34 t3 3 ∧ EI K mg "TooMany" c34 s_TooMany___init__ "TooMany.__init__" ["what", "limit"])
    (E35 : CB K c35 t0 0 ∧ PySem.W.excIn K c35 (tl 0) (nwOf 0) = true ∧ mg "InvalidBooks" = some (.ref c35) ∧ PySem.W.keepIn K (.ref c35) = true)
    (E36 : CB K c36 t2 2 ∧ PySem.W.excIn K c36 (tl 2) (nwOf 2) = true ∧ mg "NothingToUndo" = some (.ref c36) ∧ PySem.W.keepIn K (.ref c36) = true)
    (n0 : mg "ValueError" = none)
    (n1 : mg "LookupError" = none)
    (n2 : mg "RuntimeError" = none)
    (n3 : mg "ArithmeticError" = none)
    (nd : ([c0, c1, c2, c3, c4, c5, c6, c7, c8, c9, c10, c11, c12, c13, c14, c15, c16, c17, c18, c19, c20, c21, c22, c23, c24, c25, c26, c27, c28, c29, c30, c31, c32, c33, c34, c35, c36] ++ [t0, t1, t2, t3]).Nodup) : Tx K mg (cF [c0, c1, c2, c3, c4, c5, c6, c7, c8, c9, c10, c11, c12, c13, c14, c15, c16, c17, c18, c19, c20, c21, c22, c23, c24, c25, c26, c27, c28, c29, c30, c31, c32, c33, c34, c35, c36]) (cF [t0, t1, t2, t3]) where
  cl := cl_mk nd E0.1 E1.1 E2.1 E3.1 E4.1 E5.1 E6.1 E7.1 E8.1 E9.1 E10.1 E11.1 E12.1 E13.1 E14.1 E15.1 E16.1 E17.1 E18.1 E19.1 E20.1 E21.1 E22.1 E23.1 E24.1 E25.1 E26.1 E27.1 E28.1 E29.1 E30.1 E31.1 E32.1 E33.1 E34.1 E35.1 E36.1 D0.2 D1.2 D2.2 D3.2
  e0 := E0.2
  e1 := E1.2
  e2 := E2.2
  e3 := E3.2
  e4 := E4.2
  e5 := E5.2
  e6 := E6.2
  e7 := E7.2
  e8 := E8.2
  e9 := E9.2
  e10 := E10.2
  e11 := E11.2
  e12 := E12.2
  e13 := E13.2
  e14 := E14.2
  e15 := E15.2
  e16 := E16.2
  e17 := E17.2
  e18 := E18.2
  e19 := E19.2
  e20 := E20.2
  e21 := E21.2
  e22 := E22.2
  e23 := E23.2
  e24 := E24.2
  e25 := E25.2
  e26 := E26.2
  e27 := E27.2
  e28 := E28.2
  e29 := E29.2
  e30 := E30.2
  e31 := E31.2
  e32 := E32.2
  e33 := E33.2
  e34 := E34.2
  x35 := E35.2.1
  g35 := E35.2.2.1
  k35 := E35.2.2.2
  x36 := E36.2.1
  g36 := E36.2.2.1
  k36 := E36.2.2.2
  b0 := D0.1
  b1 := D1.1
  b2 := D2.1
  b3 := D3.1
  n0 := n0
  n1 := n1
  n2 := n2
  n3 := n3
theorem walk {l : PySem.W.OpenLaw} {q : Program} {loose : List Str} {XP : (Str → Option Value) → Heap → Prop} {YP : World → Heap → Prop} {d : DefRec} {K : Params → PySem.W.Frag} (hn : l.most = some 63) (hdf : d.params.defaults = [])
    (hY : ∀ (w : World) (h : Heap), YP w h → (K w.params).In h)
    (F : ∀ (w : World) (mg : Str → Option Value) (fa : Addr) (h : Heap), (K w.params).In h → h.Ns mainGlobals mg → mg d.name = some (.ref fa) →
      ∃ fd : FuncData, (∀ (s : Shared) (u : Value), BindsTo s fd ⟨[u], []⟩ [("_law_script", u)]) ∧ ∀ base : Heap, (K w.params).In base → base.Ns mainGlobals mg → FnG l.prog w (K w.params) mg base CX0 5 fa fd ["_law_script"] (spLaw (K w.params))) :
    PySem.W.WalkO q loose XP YP l.row.toRowW d [] (fun f vs => PySem.call f vs) :=
  L2.walk_ofG (n := 63) (k := 5) (x := "_law_script") (sp := fun w => spLaw (K w.params)) hn (by decide) hdf ⟨rfl, by decide, by decide⟩ hY F (fun _ _ a ns hl _ hS => ⟨a, ns, rfl, hS, hl, fun _ => rfl⟩)
end N

open PySem PySem.W PyProof.Rows
/-! The head writes a second form of each object of the heap, for the sake of speed, and an equation for it in which all of them stand: over 846 objects that is 430 MB. No step of the top reads
the objects below (defs, their code objects, tuples, instances): where the name of the second form is taken, the head leaves the object as it is. -/
def PySem.W.Fast.tw2132029292895624192 : Unit := ()
def PySem.W.Fast.tw13343918040275786880 : Unit := ()
def PySem.W.Fast.tw463774138113389760 : Unit := ()
def PySem.W.Fast.tw17823556299335049440 : Unit := ()
def PySem.W.Fast.tw2869065659524454656 : Unit := ()
def PySem.W.Fast.tw18367749455379333440 : Unit := ()
def PySem.W.Fast.tw17577329170770402720 : Unit := ()
def PySem.W.Fast.tw17862349074038704544 : Unit := ()
def PySem.W.Fast.tw10294118229990073760 : Unit := ()
def PySem.W.Fast.tw13705283562680751584 : Unit := ()
def PySem.W.Fast.tw5341297951324810720 : Unit := ()
def PySem.W.Fast.tw13437419889732721216 : Unit := ()
def PySem.W.Fast.tw3919386906821981792 : Unit := ()
def PySem.W.Fast.tw7538781388859322016 : Unit := ()
def PySem.W.Fast.tw4953865588907285216 : Unit := ()
def PySem.W.Fast.tw18031968618487185184 : Unit := ()
def PySem.W.Fast.tw11180800956215176064 : Unit := ()
def PySem.W.Fast.tw16422413458241162112 : Unit := ()
def PySem.W.Fast.tw13385558918117058561 : Unit := ()
def PySem.W.Fast.tw11513857634932158529 : Unit := ()
def PySem.W.Fast.tw8422229294311615681 : Unit := ()
def PySem.W.Fast.tw4545961482378311905 : Unit := ()
def PySem.W.Fast.tw4699756791338806529 : Unit := ()
def PySem.W.Fast.tw13931877327420345601 : Unit := ()
def PySem.W.Fast.tw2261719852989239553 : Unit := ()
def PySem.W.Fast.tw12132596417379514657 : Unit := ()
def PySem.W.Fast.tw4211115844707057057 : Unit := ()
def PySem.W.Fast.tw15499940227032437249 : Unit := ()
def PySem.W.Fast.tw8919978131948313185 : Unit := ()
def PySem.W.Fast.tw14845619989558847073 : Unit := ()
def PySem.W.Fast.tw8432719020341155521 : Unit := ()
def PySem.W.Fast.tw18441984877410159329 : Unit := ()
def PySem.W.Fast.tw8949853181751564097 : Unit := ()
def PySem.W.Fast.tw15764947353670896545 : Unit := ()
def PySem.W.Fast.tw15052318979288761249 : Unit := ()
def PySem.W.Fast.tw12188032599808994241 : Unit := ()
def PySem.W.Fast.tw2144661209622563809 : Unit := ()
def PySem.W.Fast.tw14424681132571578402 : Unit := ()
def PySem.W.Fast.tw15978794797337165890 : Unit := ()
def PySem.W.Fast.tw17334828202450815106 : Unit := ()
def PySem.W.Fast.tw15895094517606616290 : Unit := ()
def PySem.W.Fast.tw4684226298888400098 : Unit := ()
def PySem.W.Fast.tw4413860948169739490 : Unit := ()
def PySem.W.Fast.tw12884060626414724322 : Unit := ()
def PySem.W.Fast.tw4102176305081739490 : Unit := ()
def PySem.W.Fast.tw9530734954097333506 : Unit := ()
def PySem.W.Fast.tw14329579894275425762 : Unit := ()
def PySem.W.Fast.tw16132249320637822498 : Unit := ()
def PySem.W.Fast.tw17292613610259460706 : Unit := ()
def PySem.W.Fast.tw9387514328989991554 : Unit := ()
def PySem.W.Fast.tw4561898282857576226 : Unit := ()
def PySem.W.Fast.tw8356303796347215682 : Unit := ()
def PySem.W.Fast.tw17163426234232328066 : Unit := ()
def PySem.W.Fast.tw1401067106901849026 : Unit := ()
def PySem.W.Fast.tw16279288168775177219 : Unit := ()
def PySem.W.Fast.tw12773500944031208451 : Unit := ()
def PySem.W.Fast.tw13366278800048369731 : Unit := ()
def PySem.W.Fast.tw9116068151291705539 : Unit := ()
def PySem.W.Fast.tw9860861378791804195 : Unit := ()
def PySem.W.Fast.tw1922157984580058403 : Unit := ()
def PySem.W.Fast.tw9201617497623189827 : Unit := ()
def PySem.W.Fast.tw1158361714356455011 : Unit := ()
def PySem.W.Fast.tw10258873121960336067 : Unit := ()
def PySem.W.Fast.tw15173544498738437827 : Unit := ()
def PySem.W.Fast.tw18310463660012746435 : Unit := ()
def PySem.W.Fast.tw18124618509676941091 : Unit := ()
def PySem.W.Fast.tw14782954611325821827 : Unit := ()
def PySem.W.Fast.tw8498532028676091811 : Unit := ()
def PySem.W.Fast.tw15771247859494662083 : Unit := ()
def PySem.W.Fast.tw14671739901194505220 : Unit := ()
def PySem.W.Fast.tw429539710256275620 : Unit := ()
def PySem.W.Fast.tw17760279517084355780 : Unit := ()
def PySem.W.Fast.tw16925712312323332580 : Unit := ()
def PySem.W.Fast.tw8319933024895762948 : Unit := ()
def PySem.W.Fast.tw1864683662541468164 : Unit := ()
def PySem.W.Fast.tw13462424878891718212 : Unit := ()
def PySem.W.Fast.tw6508132753307246276 : Unit := ()
def PySem.W.Fast.tw12903330217458380548 : Unit := ()
def PySem.W.Fast.tw4548300405975405348 : Unit := ()
def PySem.W.Fast.tw9592300441314626372 : Unit := ()
def PySem.W.Fast.tw6851275008772768644 : Unit := ()
def PySem.W.Fast.tw6858818405166986180 : Unit := ()
def PySem.W.Fast.tw15593559885672580101 : Unit := ()
def PySem.W.Fast.tw13444670453868202053 : Unit := ()
def PySem.W.Fast.tw360634875079729221 : Unit := ()
def PySem.W.Fast.tw5805800948307579973 : Unit := ()
def PySem.W.Fast.tw12003660372656728261 : Unit := ()
def PySem.W.Fast.tw1986786360949550309 : Unit := ()
def PySem.W.Fast.tw13710940844802916613 : Unit := ()
def PySem.W.Fast.tw9317495090193701157 : Unit := ()
def PySem.W.Fast.tw6631347999910079877 : Unit := ()
def PySem.W.Fast.tw8219003486749837733 : Unit := ()
def PySem.W.Fast.tw206757683497733573 : Unit := ()
def PySem.W.Fast.tw9402243437249704421 : Unit := ()
def PySem.W.Fast.tw13861322856664149509 : Unit := ()
def PySem.W.Fast.tw5498123283257192965 : Unit := ()
def PySem.W.Fast.tw10910644110388302437 : Unit := ()
def PySem.W.Fast.tw8996207646774452837 : Unit := ()
def PySem.W.Fast.tw14538725608371270373 : Unit := ()
def PySem.W.Fast.tw4313010194945074917 : Unit := ()
def PySem.W.Fast.tw1342123614928995077 : Unit := ()
def PySem.W.Fast.tw14154597600763967237 : Unit := ()
def PySem.W.Fast.tw506581581156960101 : Unit := ()
def PySem.W.Fast.tw11076892268299887525 : Unit := ()
def PySem.W.Fast.tw18384110700954362821 : Unit := ()
def PySem.W.Fast.tw14849461344987154502 : Unit := ()
def PySem.W.Fast.tw16902440903046159558 : Unit := ()
def PySem.W.Fast.tw4039707410889071942 : Unit := ()
def PySem.W.Fast.tw5289818103960998278 : Unit := ()
def PySem.W.Fast.tw6216382948874008006 : Unit := ()
def PySem.W.Fast.tw651700358538967526 : Unit := ()
def PySem.W.Fast.tw4267111383703672358 : Unit := ()
def PySem.W.Fast.tw3215387988796971590 : Unit := ()
def PySem.W.Fast.tw10550934584343373414 : Unit := ()
def PySem.W.Fast.tw14801369171006070438 : Unit := ()
def PySem.W.Fast.tw6469784823511061222 : Unit := ()
def PySem.W.Fast.tw1725486776273817318 : Unit := ()
def PySem.W.Fast.tw12058884036946728934 : Unit := ()
def PySem.W.Fast.tw12738610918357793766 : Unit := ()
def PySem.W.Fast.tw4189273013823423559 : Unit := ()
def PySem.W.Fast.tw8080008513338510535 : Unit := ()
def PySem.W.Fast.tw15541240446876304647 : Unit := ()
def PySem.W.Fast.tw14441679199631801671 : Unit := ()
def PySem.W.Fast.tw4483904966330829159 : Unit := ()
def PySem.W.Fast.tw3681537716864247207 : Unit := ()
def PySem.W.Fast.tw9331231397406362311 : Unit := ()
def PySem.W.Fast.tw14703100239697439463 : Unit := ()
def PySem.W.Fast.tw2789304352393801511 : Unit := ()
def PySem.W.Fast.tw18105302477358141223 : Unit := ()
def PySem.W.Fast.tw9536688357841153863 : Unit := ()
def PySem.W.Fast.tw16298917771340976007 : Unit := ()
def PySem.W.Fast.tw5694767641087392711 : Unit := ()
def PySem.W.Fast.tw13769103115541136327 : Unit := ()
def PySem.W.Fast.tw18157406047293677543 : Unit := ()
def PySem.W.Fast.tw13257283266767686631 : Unit := ()
def PySem.W.Fast.tw11263768400469242888 : Unit := ()
def PySem.W.Fast.tw14594842627406614536 : Unit := ()
def PySem.W.Fast.tw17659185236578331656 : Unit := ()
def PySem.W.Fast.tw9461873434466728008 : Unit := ()
def PySem.W.Fast.tw14819390147424179368 : Unit := ()
def PySem.W.Fast.tw3721919958574915784 : Unit := ()
def PySem.W.Fast.tw354308444213283272 : Unit := ()
def PySem.W.Fast.tw15495752065017430504 : Unit := ()
def PySem.W.Fast.tw5404398260228975080 : Unit := ()
def PySem.W.Fast.tw9977182230042388008 : Unit := ()
def PySem.W.Fast.tw6329614223026926184 : Unit := ()
def PySem.W.Fast.tw2187251505897268136 : Unit := ()
def PySem.W.Fast.tw256976265262469064 : Unit := ()
def PySem.W.Fast.tw609457278022895560 : Unit := ()
def PySem.W.Fast.tw4938610541543285704 : Unit := ()
def PySem.W.Fast.tw17890440400047909864 : Unit := ()
def PySem.W.Fast.tw16120054744476736488 : Unit := ()
def PySem.W.Fast.tw7220529860990300233 : Unit := ()
def PySem.W.Fast.tw2084650752826471497 : Unit := ()
def PySem.W.Fast.tw6188973233030003785 : Unit := ()
def PySem.W.Fast.tw4734895289157585001 : Unit := ()
def PySem.W.Fast.tw4321966507151631593 : Unit := ()
def PySem.W.Fast.tw9320515035125037321 : Unit := ()
def PySem.W.Fast.tw12250869413391326473 : Unit := ()
def PySem.W.Fast.tw8924819469995637033 : Unit := ()
def PySem.W.Fast.tw17986951261819808105 : Unit := ()
def PySem.W.Fast.tw15254633091992210921 : Unit := ()
def PySem.W.Fast.tw2386784164831690217 : Unit := ()
def PySem.W.Fast.tw8995945545434573385 : Unit := ()
def PySem.W.Fast.tw3350206127114907401 : Unit := ()
def PySem.W.Fast.tw11308061921803828041 : Unit := ()
def PySem.W.Fast.tw4547051000311932777 : Unit := ()
def PySem.W.Fast.tw9678289623588505577 : Unit := ()
def PySem.W.Fast.tw13459084325293418506 : Unit := ()
def PySem.W.Fast.tw561727478393794602 : Unit := ()
def PySem.W.Fast.tw4480162626587320490 : Unit := ()
def PySem.W.Fast.tw14172470266813156586 : Unit := ()
def PySem.W.Fast.tw9848817304349107530 : Unit := ()
def PySem.W.Fast.tw17435391645217708394 : Unit := ()
def PySem.W.Fast.tw6030501089693204938 : Unit := ()
def PySem.W.Fast.tw12930229547647579594 : Unit := ()
def PySem.W.Fast.tw7873748247521183178 : Unit := ()
def PySem.W.Fast.tw14903569129155370506 : Unit := ()
def PySem.W.Fast.tw14387916025512776202 : Unit := ()
def PySem.W.Fast.tw16248296213531012650 : Unit := ()
def PySem.W.Fast.tw4683681711962371626 : Unit := ()
def PySem.W.Fast.tw2455152089536381482 : Unit := ()
def PySem.W.Fast.tw15763482434359817770 : Unit := ()
def PySem.W.Fast.tw10539347186207431242 : Unit := ()
def PySem.W.Fast.tw11844019762684407370 : Unit := ()
def PySem.W.Fast.tw11962351593759143498 : Unit := ()
def PySem.W.Fast.tw9744259246892133002 : Unit := ()
def PySem.W.Fast.tw17260811203177919210 : Unit := ()
def PySem.W.Fast.tw13812277999558781770 : Unit := ()
def PySem.W.Fast.tw6607644564249050058 : Unit := ()
def PySem.W.Fast.tw2403389108928632939 : Unit := ()
def PySem.W.Fast.tw9646623106273453227 : Unit := ()
def PySem.W.Fast.tw13622603851894308203 : Unit := ()
def PySem.W.Fast.tw18183970276198133131 : Unit := ()
def PySem.W.Fast.tw628631919661052299 : Unit := ()
def PySem.W.Fast.tw4565167180653195659 : Unit := ()
def PySem.W.Fast.tw7001957589650049515 : Unit := ()
def PySem.W.Fast.tw1956775160557780875 : Unit := ()
def PySem.W.Fast.tw1599053048872161195 : Unit := ()
def PySem.W.Fast.tw14061609134260724683 : Unit := ()
def PySem.W.Fast.tw4538635040379822027 : Unit := ()
def PySem.W.Fast.tw2997492091776894028 : Unit := ()
def PySem.W.Fast.tw1932759071263863916 : Unit := ()
def PySem.W.Fast.tw8297923619242306668 : Unit := ()
def PySem.W.Fast.tw2997480634906808460 : Unit := ()
def PySem.W.Fast.tw446995266069924076 : Unit := ()
def PySem.W.Fast.tw7181997581385953548 : Unit := ()
def PySem.W.Fast.tw4804111812005502284 : Unit := ()
def PySem.W.Fast.tw12747814925858328940 : Unit := ()
def PySem.W.Fast.tw1378205811072252300 : Unit := ()
def PySem.W.Fast.tw2314633323536394700 : Unit := ()
def PySem.W.Fast.tw12528533614272120300 : Unit := ()
def PySem.W.Fast.tw7764699552788554220 : Unit := ()
def PySem.W.Fast.tw209982475168477708 : Unit := ()
def PySem.W.Fast.tw7091221385724896812 : Unit := ()
def PySem.W.Fast.tw11717715558655726156 : Unit := ()
def PySem.W.Fast.tw16636501806038632012 : Unit := ()
def PySem.W.Fast.tw12768989823518198380 : Unit := ()
def PySem.W.Fast.tw12627051441459223148 : Unit := ()
def PySem.W.Fast.tw17410218998227585676 : Unit := ()
def PySem.W.Fast.tw2692750590507578028 : Unit := ()
def PySem.W.Fast.tw16053306600634468012 : Unit := ()
def PySem.W.Fast.tw14332157829676619468 : Unit := ()
def PySem.W.Fast.tw13032259773685033708 : Unit := ()
def PySem.W.Fast.tw7485256538410118956 : Unit := ()
def PySem.W.Fast.tw2015444344454546412 : Unit := ()
def PySem.W.Fast.tw4903002758410956813 : Unit := ()
def PySem.W.Fast.tw16682895059504647277 : Unit := ()
def PySem.W.Fast.tw4046790133079468173 : Unit := ()
def PySem.W.Fast.tw7921390202802761869 : Unit := ()
def PySem.W.Fast.tw14564479935002850509 : Unit := ()
def PySem.W.Fast.tw10510019762269167821 : Unit := ()
def PySem.W.Fast.tw12669407529647801677 : Unit := ()
def PySem.W.Fast.tw16721508838639397229 : Unit := ()
def PySem.W.Fast.tw13484562703626004877 : Unit := ()
def PySem.W.Fast.tw6701911527682315725 : Unit := ()
def PySem.W.Fast.tw6194202620331982285 : Unit := ()
def PySem.W.Fast.tw9510108024173832781 : Unit := ()
def PySem.W.Fast.tw6259241058660970061 : Unit := ()
def PySem.W.Fast.tw12091130801917272685 : Unit := ()
def PySem.W.Fast.tw11662115353561507501 : Unit := ()
def PySem.W.Fast.tw5000232492035539693 : Unit := ()
def PySem.W.Fast.tw11489344026974618541 : Unit := ()
def PySem.W.Fast.tw615563214671542189 : Unit := ()
def PySem.W.Fast.tw10161179621583223854 : Unit := ()
def PySem.W.Fast.tw14261769069557060686 : Unit := ()
def PySem.W.Fast.tw16309811473084048462 : Unit := ()
def PySem.W.Fast.tw16005714805435085966 : Unit := ()
def PySem.W.Fast.tw3374319085511977134 : Unit := ()
def PySem.W.Fast.tw15166322114958858414 : Unit := ()
def PySem.W.Fast.tw13996866031312336078 : Unit := ()
def PySem.W.Fast.tw8278001386518606062 : Unit := ()
def PySem.W.Fast.tw15743010393045028110 : Unit := ()
def PySem.W.Fast.tw16654469307462801742 : Unit := ()
def PySem.W.Fast.tw16873086082458093902 : Unit := ()
def PySem.W.Fast.tw2941924889016668590 : Unit := ()
def PySem.W.Fast.tw16859961878692490766 : Unit := ()
def PySem.W.Fast.tw14993981098963755598 : Unit := ()
def PySem.W.Fast.tw4051853165826885262 : Unit := ()
def PySem.W.Fast.tw14782755387869428366 : Unit := ()
def PySem.W.Fast.tw3475869608268796686 : Unit := ()
def PySem.W.Fast.tw12099505692703838030 : Unit := ()
def PySem.W.Fast.tw5783627655825047438 : Unit := ()
def PySem.W.Fast.tw4015202173357781934 : Unit := ()
def PySem.W.Fast.tw8733291241859026926 : Unit := ()
def PySem.W.Fast.tw9223045988441327695 : Unit := ()
def PySem.W.Fast.tw12954591660760965231 : Unit := ()
def PySem.W.Fast.tw18335596039185421423 : Unit := ()
def PySem.W.Fast.tw8737599933303070863 : Unit := ()
def PySem.W.Fast.tw7212858340449540239 : Unit := ()
def PySem.W.Fast.tw13669536469129627823 : Unit := ()
def PySem.W.Fast.tw1000662321505670351 : Unit := ()
def PySem.W.Fast.tw18073898193381586223 : Unit := ()
def PySem.W.Fast.tw2078950565319712143 : Unit := ()
def PySem.W.Fast.tw8006371003960147343 : Unit := ()
def PySem.W.Fast.tw16531682779099013679 : Unit := ()
def PySem.W.Fast.tw6145912378217320015 : Unit := ()
def PySem.W.Fast.tw6170744672141170255 : Unit := ()
def PySem.W.Fast.tw18146532975450069615 : Unit := ()
def PySem.W.Fast.tw11481637867367846703 : Unit := ()
def PySem.W.Fast.tw4772062507164038959 : Unit := ()
def PySem.W.Fast.tw16412085850373738351 : Unit := ()
def PySem.W.Fast.tw726351398001015727 : Unit := ()
def PySem.W.Fast.tw4906484309439969231 : Unit := ()
def PySem.W.Fast.tw6356304189028158447 : Unit := ()
def PySem.W.Fast.tw3300257896294614128 : Unit := ()
def PySem.W.Fast.tw16217903435359918192 : Unit := ()
def PySem.W.Fast.tw2295934692909999376 : Unit := ()
def PySem.W.Fast.tw15504105790966721872 : Unit := ()
def PySem.W.Fast.tw8002303944043701648 : Unit := ()
def PySem.W.Fast.tw7231845647793152400 : Unit := ()
def PySem.W.Fast.tw8060666987683057360 : Unit := ()
def PySem.W.Fast.tw17382457898008728272 : Unit := ()
def PySem.W.Fast.tw4946147512530127568 : Unit := ()
def PySem.W.Fast.tw1708089923452030704 : Unit := ()
def PySem.W.Fast.tw1979317910248211280 : Unit := ()
def PySem.W.Fast.tw14226173905949225808 : Unit := ()
def PySem.W.Fast.tw1467881925912835984 : Unit := ()
def PySem.W.Fast.tw384561282630992784 : Unit := ()
def PySem.W.Fast.tw12798174099139212305 : Unit := ()
def PySem.W.Fast.tw10911716485165742097 : Unit := ()
def PySem.W.Fast.tw306047672372848657 : Unit := ()
def PySem.W.Fast.tw2741014181512449073 : Unit := ()
def PySem.W.Fast.tw7424060955962978353 : Unit := ()
def PySem.W.Fast.tw18094105663378112561 : Unit := ()
def PySem.W.Fast.tw10842938092177581297 : Unit := ()
def PySem.W.Fast.tw14785633479632635281 : Unit := ()
def PySem.W.Fast.tw3778530596728393105 : Unit := ()
def PySem.W.Fast.tw1630143524128594353 : Unit := ()
def PySem.W.Fast.tw14135006944967825841 : Unit := ()
def PySem.W.Fast.tw13813618637161013713 : Unit := ()
def PySem.W.Fast.tw7873786274422454737 : Unit := ()
def PySem.W.Fast.tw12960429369202013873 : Unit := ()
def PySem.W.Fast.tw15240619367488684849 : Unit := ()
def PySem.W.Fast.tw10792498714594961201 : Unit := ()
def PySem.W.Fast.tw10888863842102328177 : Unit := ()
def PySem.W.Fast.tw2046362190076281809 : Unit := ()
def PySem.W.Fast.tw11566098044289413073 : Unit := ()
def PySem.W.Fast.tw14727194681476072466 : Unit := ()
def PySem.W.Fast.tw2474200967059427378 : Unit := ()
def PySem.W.Fast.tw866652123128751154 : Unit := ()
def PySem.W.Fast.tw17013487888433625170 : Unit := ()
def PySem.W.Fast.tw4186743451310774866 : Unit := ()
def PySem.W.Fast.tw6125853113672642322 : Unit := ()
def PySem.W.Fast.tw17267597263503486738 : Unit := ()
def PySem.W.Fast.tw11898673842065290130 : Unit := ()
def PySem.W.Fast.tw2424988045566436242 : Unit := ()
def PySem.W.Fast.tw9045458381397004210 : Unit := ()
def PySem.W.Fast.tw7374399212775623666 : Unit := ()
def PySem.W.Fast.tw12298192366917762067 : Unit := ()
def PySem.W.Fast.tw9197174079833555027 : Unit := ()
def PySem.W.Fast.tw7476452910721959123 : Unit := ()
def PySem.W.Fast.tw855453113358079251 : Unit := ()
def PySem.W.Fast.tw17937168697417666835 : Unit := ()
def PySem.W.Fast.tw6945566481307383155 : Unit := ()
def PySem.W.Fast.tw13567515925198824819 : Unit := ()
def PySem.W.Fast.tw16035376269474964883 : Unit := ()
def PySem.W.Fast.tw5323657890516693427 : Unit := ()
def PySem.W.Fast.tw9947508896943372755 : Unit := ()
def PySem.W.Fast.tw10519837036962490867 : Unit := ()
def PySem.W.Fast.tw17590705303994421779 : Unit := ()
def PySem.W.Fast.tw17016834523296244275 : Unit := ()
def PySem.W.Fast.tw12369848792361866835 : Unit := ()
def PySem.W.Fast.tw17062427158221528723 : Unit := ()
def PySem.W.Fast.tw2172276787581067923 : Unit := ()
def PySem.W.Fast.tw11402884983299125971 : Unit := ()
def PySem.W.Fast.tw12717557048674177747 : Unit := ()
def PySem.W.Fast.tw5537553045615171315 : Unit := ()
def PySem.W.Fast.tw1207101557538958131 : Unit := ()
def PySem.W.Fast.tw5992840812097835891 : Unit := ()
def PySem.W.Fast.tw18004296560267143027 : Unit := ()
def PySem.W.Fast.tw5649666937502919571 : Unit := ()
def PySem.W.Fast.tw7217548393331319763 : Unit := ()
def PySem.W.Fast.tw3592811809046731828 : Unit := ()
def PySem.W.Fast.tw18095796173783872564 : Unit := ()
def PySem.W.Fast.tw16746677531222629524 : Unit := ()
def PySem.W.Fast.tw1607123104830579860 : Unit := ()
def PySem.W.Fast.tw819570635367399668 : Unit := ()
def PySem.W.Fast.tw18383651708701053236 : Unit := ()
def PySem.W.Fast.tw5008593111378822452 : Unit := ()
def PySem.W.Fast.tw17852080271459398996 : Unit := ()
def PySem.W.Fast.tw9553971096990549364 : Unit := ()
def PySem.W.Fast.tw17318462890700432884 : Unit := ()
def PySem.W.Fast.tw14334995849660946996 : Unit := ()
def PySem.W.Fast.tw5221592684559293012 : Unit := ()
def PySem.W.Fast.tw4524658085876675188 : Unit := ()
def PySem.W.Fast.tw7249310025045793396 : Unit := ()
def PySem.W.Fast.tw5522115075389312692 : Unit := ()
def PySem.W.Fast.tw3303267245142563540 : Unit := ()
def PySem.W.Fast.tw11095110211248682772 : Unit := ()
def PySem.W.Fast.tw11368310244458860372 : Unit := ()
def PySem.W.Fast.tw6880980288501444468 : Unit := ()
def PySem.W.Fast.tw5994696166404524948 : Unit := ()
def PySem.W.Fast.tw17508347553164502932 : Unit := ()
def PySem.W.Fast.tw2773992215795510196 : Unit := ()
def PySem.W.Fast.tw17360015989920007124 : Unit := ()
def PySem.W.Fast.tw3300454383303005205 : Unit := ()
def PySem.W.Fast.tw12431713363859531893 : Unit := ()
def PySem.W.Fast.tw1402340071739887797 : Unit := ()
def PySem.W.Fast.tw11738243743197964597 : Unit := ()
def PySem.W.Fast.tw6128145076113358165 : Unit := ()
def PySem.W.Fast.tw4512776594637900181 : Unit := ()
def PySem.W.Fast.tw3801850119919557013 : Unit := ()
def PySem.W.Fast.tw11766667032028208565 : Unit := ()
def PySem.W.Fast.tw4075453323654395381 : Unit := ()
def PySem.W.Fast.tw9972681490609642005 : Unit := ()
def PySem.W.Fast.tw11824586356888161845 : Unit := ()
def PySem.W.Fast.tw11161164713144168021 : Unit := ()
def PySem.W.Fast.tw12147665669636231765 : Unit := ()
def PySem.W.Fast.tw17518593693041627797 : Unit := ()
def PySem.W.Fast.tw15554417296805563061 : Unit := ()
def PySem.W.Fast.tw10741264400317747893 : Unit := ()
def PySem.W.Fast.tw28018229315631829 : Unit := ()
def PySem.W.Fast.tw17510684818845775701 : Unit := ()
def PySem.W.Fast.tw6798380500665416597 : Unit := ()
def PySem.W.Fast.tw890339118813698166 : Unit := ()
def PySem.W.Fast.tw17590876675597686902 : Unit := ()
def PySem.W.Fast.tw14036186469904095446 : Unit := ()
def PySem.W.Fast.tw6408400580700104982 : Unit := ()
def PySem.W.Fast.tw14537775516033599862 : Unit := ()
def PySem.W.Fast.tw11421057715548341654 : Unit := ()
def PySem.W.Fast.tw14196522196718054806 : Unit := ()
def PySem.W.Fast.tw699815216081779126 : Unit := ()
def PySem.W.Fast.tw9757595895972200118 : Unit := ()
def PySem.W.Fast.tw2213964242967304950 : Unit := ()
def PySem.W.Fast.tw12681666616541194006 : Unit := ()
def PySem.W.Fast.tw6549852094080907030 : Unit := ()
def PySem.W.Fast.tw11853640710764476214 : Unit := ()
def PySem.W.Fast.tw6542358382571353910 : Unit := ()
def PySem.W.Fast.tw2107523057676978006 : Unit := ()
def PySem.W.Fast.tw8285278889055680438 : Unit := ()
def PySem.W.Fast.tw2694234056635809718 : Unit := ()
def PySem.W.Fast.tw12542895121996172375 : Unit := ()
def PySem.W.Fast.tw6828597562223498359 : Unit := ()
def PySem.W.Fast.tw15910123707662034135 : Unit := ()
def PySem.W.Fast.tw4341293187932698999 : Unit := ()
def PySem.W.Fast.tw4382473104129494423 : Unit := ()
def PySem.W.Fast.tw17339309145561079191 : Unit := ()
def PySem.W.Fast.tw8431482922422412695 : Unit := ()
def PySem.W.Fast.tw7900394595670775223 : Unit := ()
def PySem.W.Fast.tw15805137534098808535 : Unit := ()
def PySem.W.Fast.tw9495317472360511255 : Unit := ()
def PySem.W.Fast.tw15577281813014381367 : Unit := ()
def PySem.W.Fast.tw9003107776662980439 : Unit := ()
def PySem.W.Fast.tw9919008367099125623 : Unit := ()
def PySem.W.Fast.tw4334401890000744311 : Unit := ()
def PySem.W.Fast.tw13851971633180934007 : Unit := ()
def PySem.W.Fast.tw6105849179199505303 : Unit := ()
def PySem.W.Fast.tw14520296925931582552 : Unit := ()
def PySem.W.Fast.tw10310341975313369176 : Unit := ()
def PySem.W.Fast.tw11033627544408312984 : Unit := ()
def PySem.W.Fast.tw4635989785427082552 : Unit := ()
def PySem.W.Fast.tw14479964200598819128 : Unit := ()
def PySem.W.Fast.tw10624116801336726872 : Unit := ()
def PySem.W.Fast.tw13142635158332540280 : Unit := ()
def PySem.W.Fast.tw11907897558876765624 : Unit := ()
def PySem.W.Fast.tw6046103115902281144 : Unit := ()
def PySem.W.Fast.tw12670982853097334264 : Unit := ()
def PySem.W.Fast.tw3671519592330383864 : Unit := ()
def PySem.W.Fast.tw12772213712371865176 : Unit := ()
def PySem.W.Fast.tw4859391219904099992 : Unit := ()
def PySem.W.Fast.tw16145670418848962200 : Unit := ()
def PySem.W.Fast.tw9796564346219866840 : Unit := ()
def PySem.W.Fast.tw8047209995159408440 : Unit := ()
def PySem.W.Fast.tw14859695947638507448 : Unit := ()
def PySem.W.Fast.tw17271881437230615512 : Unit := ()
def PySem.W.Fast.tw14664691819916384248 : Unit := ()
def PySem.W.Fast.tw10026605065719503897 : Unit := ()
def PySem.W.Fast.tw15326580083554890809 : Unit := ()
def PySem.W.Fast.tw2576523973992343609 : Unit := ()
def PySem.W.Fast.tw2392593158011319353 : Unit := ()
def PySem.W.Fast.tw10988764466652934233 : Unit := ()
def PySem.W.Fast.tw17980500129456985241 : Unit := ()
def PySem.W.Fast.tw7007286002206832825 : Unit := ()
def PySem.W.Fast.tw12901003280762261817 : Unit := ()
def PySem.W.Fast.tw11212356425047092601 : Unit := ()
def PySem.W.Fast.tw1719895430356276633 : Unit := ()
def PySem.W.Fast.tw2400638427578300857 : Unit := ()
def PySem.W.Fast.tw17678831435119133177 : Unit := ()
def PySem.W.Fast.tw10095894221667365369 : Unit := ()
def PySem.W.Fast.tw9113380124883318265 : Unit := ()
def PySem.W.Fast.tw6162269159774324313 : Unit := ()
def PySem.W.Fast.tw15590096980072825465 : Unit := ()
def PySem.W.Fast.tw9950792792127014553 : Unit := ()
def PySem.W.Fast.tw694261584828832409 : Unit := ()
def PySem.W.Fast.tw16822532161544500889 : Unit := ()
def PySem.W.Fast.tw8157277791214410489 : Unit := ()
def PySem.W.Fast.tw14904681115217272601 : Unit := ()
def PySem.W.Fast.tw5072417060200589145 : Unit := ()
def PySem.W.Fast.tw16864618592142003386 : Unit := ()
def PySem.W.Fast.tw6084841979344569690 : Unit := ()
def PySem.W.Fast.tw11024694936033576346 : Unit := ()
def PySem.W.Fast.tw16493865465440409018 : Unit := ()
def PySem.W.Fast.tw6278996535519779258 : Unit := ()
def PySem.W.Fast.tw17658959251048325594 : Unit := ()
def PySem.W.Fast.tw15012102849882553082 : Unit := ()
def PySem.W.Fast.tw2950685276103557050 : Unit := ()
def PySem.W.Fast.tw3726453103677007866 : Unit := ()
def PySem.W.Fast.tw13303234937177203706 : Unit := ()
def PySem.W.Fast.tw1495895850433845275 : Unit := ()
def PySem.W.Fast.tw10576836333797772347 : Unit := ()
def PySem.W.Fast.tw1142673529048489019 : Unit := ()
def PySem.W.Fast.tw16902085369446701243 : Unit := ()
def PySem.W.Fast.tw16203965252921439515 : Unit := ()
def PySem.W.Fast.tw12921946191010883867 : Unit := ()
def PySem.W.Fast.tw13601115934706021691 : Unit := ()
def PySem.W.Fast.tw15621415185263527259 : Unit := ()
def PySem.W.Fast.tw4077048163395320219 : Unit := ()
def PySem.W.Fast.tw12297992134047619483 : Unit := ()
def PySem.W.Fast.tw10159399881129095643 : Unit := ()
def PySem.W.Fast.tw1891733041441978011 : Unit := ()
def PySem.W.Fast.tw8752102160057688731 : Unit := ()
def PySem.W.Fast.tw8912161614967838395 : Unit := ()
def PySem.W.Fast.tw5960047855520388891 : Unit := ()
def PySem.W.Fast.tw4607425872040536859 : Unit := ()
def PySem.W.Fast.tw2483420100392427323 : Unit := ()
def PySem.W.Fast.tw12330612334027959195 : Unit := ()
def PySem.W.Fast.tw17351735930882485243 : Unit := ()
def PySem.W.Fast.tw2570914705882880060 : Unit := ()
def PySem.W.Fast.tw14647417624928369756 : Unit := ()
def PySem.W.Fast.tw2597523674469684444 : Unit := ()
def PySem.W.Fast.tw3953844824629472508 : Unit := ()
def PySem.W.Fast.tw3436067635600285980 : Unit := ()
def PySem.W.Fast.tw10879749546641988924 : Unit := ()
def PySem.W.Fast.tw14391293386007564604 : Unit := ()
def PySem.W.Fast.tw11267315532378154396 : Unit := ()
def PySem.W.Fast.tw16919654943277366748 : Unit := ()
def PySem.W.Fast.tw3676754643040562684 : Unit := ()
def PySem.W.Fast.tw11468729153070441980 : Unit := ()
def PySem.W.Fast.tw12468840222048715292 : Unit := ()
def PySem.W.Fast.tw10016166984437732892 : Unit := ()
def PySem.W.Fast.tw7867829370405329436 : Unit := ()
def PySem.W.Fast.tw13055953723892786844 : Unit := ()
def PySem.W.Fast.tw11205608169257636508 : Unit := ()
def PySem.W.Fast.tw9630203353718772412 : Unit := ()
def PySem.W.Fast.tw740290905518256060 : Unit := ()
def PySem.W.Fast.tw4490611911172417597 : Unit := ()
def PySem.W.Fast.tw11429584451438056573 : Unit := ()
def PySem.W.Fast.tw12652081859355081885 : Unit := ()
def PySem.W.Fast.tw6331431999304432861 : Unit := ()
def PySem.W.Fast.tw6575520176995025181 : Unit := ()
def PySem.W.Fast.tw5449601097390414333 : Unit := ()
def PySem.W.Fast.tw896239598344801917 : Unit := ()
def PySem.W.Fast.tw13465540834166320765 : Unit := ()
def PySem.W.Fast.tw17188069144378779261 : Unit := ()
def PySem.W.Fast.tw14958820412457663293 : Unit := ()
def PySem.W.Fast.tw15870398105094248349 : Unit := ()
def PySem.W.Fast.tw15401437161963490237 : Unit := ()
def PySem.W.Fast.tw6822071536725586909 : Unit := ()
def PySem.W.Fast.tw12887044766017154078 : Unit := ()
def PySem.W.Fast.tw1937721966566455358 : Unit := ()
def PySem.W.Fast.tw3238445694619138142 : Unit := ()
def PySem.W.Fast.tw6968137755033780318 : Unit := ()
def PySem.W.Fast.tw16615150188913437886 : Unit := ()
def PySem.W.Fast.tw14219159868682941630 : Unit := ()
def PySem.W.Fast.tw14398111036562950334 : Unit := ()
def PySem.W.Fast.tw15752536640612570366 : Unit := ()
def PySem.W.Fast.tw10470340158578859262 : Unit := ()
def PySem.W.Fast.tw6124413428159637790 : Unit := ()
def PySem.W.Fast.tw443766864951011646 : Unit := ()
def PySem.W.Fast.tw18418582437962087742 : Unit := ()
def PySem.W.Fast.tw12396662096508845406 : Unit := ()
def PySem.W.Fast.tw4096438862311573950 : Unit := ()
def PySem.W.Fast.tw3581434408401558974 : Unit := ()
def PySem.W.Fast.tw13547939009206843870 : Unit := ()
def PySem.W.Fast.tw15433366417846715934 : Unit := ()
def PySem.W.Fast.tw13135312941875745310 : Unit := ()
def PySem.W.Fast.tw1915925776726481438 : Unit := ()
def PySem.W.Fast.tw14553807712399142462 : Unit := ()
def PySem.W.Fast.tw5342471268416680606 : Unit := ()
def PySem.W.Fast.tw8166255043249204926 : Unit := ()
def PySem.W.Fast.tw18361725300881549022 : Unit := ()
def PySem.W.Fast.tw14935467056822913822 : Unit := ()
def PySem.W.Fast.tw5665240888008139550 : Unit := ()
def PySem.W.Fast.tw12382822922155266910 : Unit := ()
def PySem.W.Fast.tw1950803216711332702 : Unit := ()
def PySem.W.Fast.tw3198059409981156222 : Unit := ()
def PySem.W.Fast.tw2629151800749243262 : Unit := ()
def PySem.W.Fast.tw14827714588952709054 : Unit := ()
def PySem.W.Fast.tw4860023922305330110 : Unit := ()
def PySem.W.Fast.tw5344687154915797982 : Unit := ()
def PySem.W.Fast.tw17817366049700826239 : Unit := ()
def PySem.W.Fast.tw1972164579936704799 : Unit := ()
def PySem.W.Fast.tw16109456028575089023 : Unit := ()
def PySem.W.Fast.tw14454166528178196959 : Unit := ()
def PySem.W.Fast.tw10282777137419654623 : Unit := ()
def PySem.W.Fast.tw9584292182412213727 : Unit := ()
def PySem.W.Fast.tw9615563845995560447 : Unit := ()
def PySem.W.Fast.tw14022695629967993375 : Unit := ()
def PySem.W.Fast.tw10953238642706405951 : Unit := ()
def PySem.W.Fast.tw3042748168174471775 : Unit := ()
def PySem.W.Fast.tw18101783494082082527 : Unit := ()
def PySem.W.Fast.tw6056707288978253535 : Unit := ()
def PySem.W.Fast.tw16860917588515726111 : Unit := ()
def PySem.W.Fast.tw9784134513789038367 : Unit := ()
def PySem.W.Fast.tw13298828918039433023 : Unit := ()
def PySem.W.Fast.tw15214748959534726111 : Unit := ()
def PySem.W.Fast.tw140236481695663071 : Unit := ()
def PySem.W.Fast.tw12550775161083096063 : Unit := ()
set_option maxRecDepth 100000 in
set_option maxHeartbeats 0 in
open_top hd for PySem.Challenge.rw_stitchsizes_k14_errors_created

open PySem PySem.W PyProof.Rows
set_option maxRecDepth 100000 in
set_option maxHeartbeats 0 in
theorem PySem.Challenge.cw_stitchsizes_k14_errors_created_holds : PySem.Challenge.rw_stitchsizes_k14_errors_created.Holds := by
  refine hd ?hc
  k_fill
  refine N.walk (l := PySem.Challenge.rw_stitchsizes_k14_errors_created) rfl rfl (fun w h Y => PySem.W.kIn_of Y) ?F
  case F =>
    intro w mg fa h KX G hmg
    refine' N.all_mk KX G hmg ?a ?lk ?c ?k ?B ?T ?F1 ?F2 ?F3 ?F4 ?F5 ?F6 ?F7 ?F8 ?F9 ?F10 ?F11 ?F12 ?F13
    (case a => k_is); (case lk => k_is); (case c => k_is); (case k => k_is)
    (case B => exact ⟨PySem.W.mg_none_of KX G (by k_is), PySem.W.mg_none_of KX G (by k_is), PySem.W.mg_none_of KX G (by k_is), PySem.W.mg_none_of KX G (by k_is), PySem.W.mg_none_of KX G (by k_is), PySem.W.mg_none_of KX G (by k_is), PySem.W.mg_none_of KX G (by k_is), PySem.W.mg_none_of KX G (by k_is), PySem.W.mg_none_of KX G (by k_is), PySem.W.mg_none_of KX G (by k_is), PySem.W.mg_none_of KX G (by k_is), PySem.W.mg_none_of KX G (by k_is), PySem.W.mg_none_of KX G (by k_is), PySem.W.mg_none_of KX G (by k_is), PySem.W.mg_none_of KX G (by k_is), PySem.W.mg_none_of KX G (by k_is), PySem.W.mg_none_of KX G (by k_is), PySem.W.mg_none_of KX G (by k_is), PySem.W.mg_none_of KX G (by k_is), PySem.W.mg_none_of KX G (by k_is)⟩)
    (case T =>
      refine' N.tx_mk ?D0 ?D1 ?D2 ?D3 ?E0 ?E1 ?E2 ?E3 ?E4 ?E5 ?E6 ?E7 ?E8 ?E9 ?E10 ?E11 ?E12 ?E13 ?E14 ?E15 ?E16 ?E17 ?E18 ?E19 ?E20 ?E21 ?E22 ?E23 ?E24 ?E25 ?E26 ?E27 ?E28 ?E29 ?E30 ?E31 ?E32 ?E33 ?E34 ?E35 ?E36 ?n0 ?n1 ?n2 ?n3 ?nd
      (case D0 => refine' N.base_mk KX G ?a ?i ?t ?s; (case a => k_is); (case i => k_is); (case t => k_is); (case s => k_is))
      (case D1 => refine' N.base_mk KX G ?a ?i ?t ?s; (case a => k_is); (case i => k_is); (case t => k_is); (case s => k_is))
      (case D2 => refine' N.base_mk KX G ?a ?i ?t ?s; (case a => k_is); (case i => k_is); (case t => k_is); (case s => k_is))
      (case D3 => refine' N.base_mk KX G ?a ?i ?t ?s; (case a => k_is); (case i => k_is); (case t => k_is); (case s => k_is))
      (case E0 => refine' N.own_mk KX G ?aC ?xL ?hb ?hnw ?kC ?ga ?gg ?eC ?hC ?ha ?hm ?tC ?hn ?ht ?sa ?no ?a1 ?t1 ?l ?c ?k; (case aC => k_is); (case xL => k_is); (case hb => rfl); (case hnw => rfl); (case kC => k_is); (case ga => k_is); (case gg => k_is); (case eC => k_is); (case hC => k_is); (case ha => k_is); (case hm => k_is); (case tC => k_is); (case hn => k_is); (case ht => k_is); (case sa => k_is); (case no => intro f hf; simp only [List.mem_cons, List.mem_nil_iff, or_false] at hf; subst hf; k_is); (case a1 => k_is); (case t1 => k_is); (case l => k_is); (case c => k_is); (case k => k_is))
      (case E1 => refine' N.own_mk KX G ?aC ?xL ?hb ?hnw ?kC ?ga ?gg ?eC ?hC ?ha ?hm ?tC ?hn ?ht ?sa ?no ?a1 ?t1 ?l ?c ?k; (case aC => k_is); (case xL => k_is); (case hb => rfl); (case hnw => rfl); (case kC => k_is); (case ga => k_is); (case gg => k_is); (case eC => k_is); (case hC => k_is); (case ha => k_is); (case hm => k_is); (case tC => k_is); (case hn => k_is); (case ht => k_is); (case sa => k_is); (case no => intro f hf; simp only [List.mem_cons, List.mem_nil_iff, or_false] at hf; subst hf; k_is); (case a1 => k_is); (case t1 => k_is); (case l => k_is); (case c => k_is); (case k => k_is))
      (case E2 => refine' N.own_mk KX G ?aC ?xL ?hb ?hnw ?kC ?ga ?gg ?eC ?hC ?ha ?hm ?tC ?hn ?ht ?sa ?no ?a1 ?t1 ?l ?c ?k; (case aC => k_is); (case xL => k_is); (case hb => rfl); (case hnw => rfl); (case kC => k_is); (case ga => k_is); (case gg => k_is); (case eC => k_is); (case hC => k_is); (case ha => k_is); (case hm => k_is); (case tC => k_is); (case hn => k_is); (case ht => k_is); (case sa => k_is); (case no => intro f hf; simp only [List.mem_cons, List.mem_nil_iff, or_false] at hf; subst hf; k_is); (case a1 => k_is); (case t1 => k_is); (case l => k_is); (case c => k_is); (case k => k_is))
      (case E3 => refine' N.own_mk KX G ?aC ?xL ?hb ?hnw ?kC ?ga ?gg ?eC ?hC ?ha ?hm ?tC ?hn ?ht ?sa ?no ?a1 ?t1 ?l ?c ?k; (case aC => k_is); (case xL => k_is); (case hb => rfl); (case hnw => rfl); (case kC => k_is); (case ga => k_is); (case gg => k_is); (case eC => k_is); (case hC => k_is); (case ha => k_is); (case hm => k_is); (case tC => k_is); (case hn => k_is); (case ht => k_is); (case sa => k_is); (case no => intro f hf; simp only [List.mem_cons, List.mem_nil_iff, or_false] at hf; subst hf; k_is); (case a1 => k_is); (case t1 => k_is); (case l => k_is); (case c => k_is); (case k => k_is))
      (case E4 => refine' N.own_mk KX G ?aC ?xL ?hb ?hnw ?kC ?ga ?gg ?eC ?hC ?ha ?hm ?tC ?hn ?ht ?sa ?no ?a1 ?t1 ?l ?c ?k; (case aC => k_is); (case xL => k_is); (case hb => rfl); (case hnw => rfl); (case kC => k_is); (case ga => k_is); (case gg => k_is); (case eC => k_is); (case hC => k_is); (case ha => k_is); (case hm => k_is); (case tC => k_is); (case hn => k_is); (case ht => k_is); (case sa => k_is); (case no => intro f hf; simp only [List.mem_cons, List.mem_nil_iff, or_false] at hf; subst hf; k_is); (case a1 => k_is); (case t1 => k_is); (case l => k_is); (case c => k_is); (case k => k_is))
      (case E5 => refine' N.own_mk KX G ?aC ?xL ?hb ?hnw ?kC ?ga ?gg ?eC ?hC ?ha ?hm ?tC ?hn ?ht ?sa ?no ?a1 ?t1 ?l ?c ?k; (case aC => k_is); (case xL => k_is); (case hb => rfl); (case hnw => rfl); (case kC => k_is); (case ga => k_is); (case gg => k_is); (case eC => k_is); (case hC => k_is); (case ha => k_is); (case hm => k_is); (case tC => k_is); (case hn => k_is); (case ht => k_is); (case sa => k_is); (case no => intro f hf; simp only [List.mem_cons, List.mem_nil_iff, or_false] at hf; subst hf; k_is); (case a1 => k_is); (case t1 => k_is); (case l => k_is); (case c => k_is); (case k => k_is))
      (case E6 => refine' N.own_mk KX G ?aC ?xL ?hb ?hnw ?kC ?ga ?gg ?eC ?hC ?ha ?hm ?tC ?hn ?ht ?sa ?no ?a1 ?t1 ?l ?c ?k; (case aC => k_is); (case xL => k_is); (case hb => rfl); (case hnw => rfl); (case kC => k_is); (case ga => k_is); (case gg => k_is); (case eC => k_is); (case hC => k_is); (case ha => k_is); (case hm => k_is); (case tC => k_is); (case hn => k_is); (case ht => k_is); (case sa => k_is); (case no => intro f hf; simp only [List.mem_cons, List.mem_nil_iff, or_false] at hf; subst hf; k_is); (case a1 => k_is); (case t1 => k_is); (case l => k_is); (case c => k_is); (case k => k_is))
      (case E7 => refine' N.own_mk KX G ?aC ?xL ?hb ?hnw ?kC ?ga ?gg ?eC ?hC ?ha ?hm ?tC ?hn ?ht ?sa ?no ?a1 ?t1 ?l ?c ?k; (case aC => k_is); (case xL => k_is); (case hb => rfl); (case hnw => rfl); (case kC => k_is); (case ga => k_is); (case gg => k_is); (case eC => k_is); (case hC => k_is); (case ha => k_is); (case hm => k_is); (case tC => k_is); (case hn => k_is); (case ht => k_is); (case sa => k_is); (case no => intro f hf; simp only [List.mem_cons, List.mem_nil_iff, or_false] at hf; subst hf; k_is); (case a1 => k_is); (case t1 => k_is); (case l => k_is); (case c => k_is); (case k => k_is))
      (case E8 => refine' N.own_mk KX G ?aC ?xL ?hb ?hnw ?kC ?ga ?gg ?eC ?hC ?ha ?hm ?tC ?hn ?ht ?sa ?no ?a1 ?t1 ?l ?c ?k; (case aC => k_is); (case xL => k_is); (case hb => rfl); (case hnw => rfl); (case kC => k_is); (case ga => k_is); (case gg => k_is); (case eC => k_is); (case hC => k_is); (case ha => k_is); (case hm => k_is); (case tC => k_is); (case hn => k_is); (case ht => k_is); (case sa => k_is); (case no => intro f hf; simp only [List.mem_cons, List.mem_nil_iff, or_false] at hf; subst hf; k_is); (case a1 => k_is); (case t1 => k_is); (case l => k_is); (case c => k_is); (case k => k_is))
      (case E9 => refine' N.own_mk KX G ?aC ?xL ?hb ?hnw ?kC ?ga ?gg ?eC ?hC ?ha ?hm ?tC ?hn ?ht ?sa ?no ?a1 ?t1 ?l ?c ?k; (case aC => k_is); (case xL => k_is); (case hb => rfl); (case hnw => rfl); (case kC => k_is); (case ga => k_is); (case gg => k_is); (case eC => k_is); (case hC => k_is); (case ha => k_is); (case hm => k_is); (case tC => k_is); (case hn => k_is); (case ht => k_is); (case sa => k_is); (case no => intro f hf; simp only [List.mem_cons, List.mem_nil_iff, or_false] at hf; subst hf; k_is); (case a1 => k_is); (case t1 => k_is); (case l => k_is); (case c => k_is); (case k => k_is))
      (case E10 => refine' N.own_mk KX G ?aC ?xL ?hb ?hnw ?kC ?ga ?gg ?eC ?hC ?ha ?hm ?tC ?hn ?ht ?sa ?no ?a1 ?t1 ?l ?c ?k; (case aC => k_is); (case xL => k_is); (case hb => rfl); (case hnw => rfl); (case kC => k_is); (case ga => k_is); (case gg => k_is); (case eC => k_is); (case hC => k_is); (case ha => k_is); (case hm => k_is); (case tC => k_is); (case hn => k_is); (case ht => k_is); (case sa => k_is); (case no => intro f hf; simp only [List.mem_cons, List.mem_nil_iff, or_false] at hf; subst hf; k_is); (case a1 => k_is); (case t1 => k_is); (case l => k_is); (case c => k_is); (case k => k_is))
      (case E11 => refine' N.own_mk KX G ?aC ?xL ?hb ?hnw ?kC ?ga ?gg ?eC ?hC ?ha ?hm ?tC ?hn ?ht ?sa ?no ?a1 ?t1 ?l ?c ?k; (case aC => k_is); (case xL => k_is); (case hb => rfl); (case hnw => rfl); (case kC => k_is); (case ga => k_is); (case gg => k_is); (case eC => k_is); (case hC => k_is); (case ha => k_is); (case hm => k_is); (case tC => k_is); (case hn => k_is); (case ht => k_is); (case sa => k_is); (case no => intro f hf; simp only [List.mem_cons, List.mem_nil_iff, or_false] at hf; subst hf; k_is); (case a1 => k_is); (case t1 => k_is); (case l => k_is); (case c => k_is); (case k => k_is))
      (case E12 => refine' N.own_mk KX G ?aC ?xL ?hb ?hnw ?kC ?ga ?gg ?eC ?hC ?ha ?hm ?tC ?hn ?ht ?sa ?no ?a1 ?t1 ?l ?c ?k; (case aC => k_is); (case xL => k_is); (case hb => rfl); (case hnw => rfl); (case kC => k_is); (case ga => k_is); (case gg => k_is); (case eC => k_is); (case hC => k_is); (case ha => k_is); (case hm => k_is); (case tC => k_is); (case hn => k_is); (case ht => k_is); (case sa => k_is); (case no => intro f hf; simp only [List.mem_cons, List.mem_nil_iff, or_false] at hf; subst hf; k_is); (case a1 => k_is); (case t1 => k_is); (case l => k_is); (case c => k_is); (case k => k_is))
      (case E13 => refine' N.own_mk KX G ?aC ?xL ?hb ?hnw ?kC ?ga ?gg ?eC ?hC ?ha ?hm ?tC ?hn ?ht ?sa ?no ?a1 ?t1 ?l ?c ?k; (case aC => k_is); (case xL => k_is); (case hb => rfl); (case hnw => rfl); (case kC => k_is); (case ga => k_is); (case gg => k_is); (case eC => k_is); (case hC => k_is); (case ha => k_is); (case hm => k_is); (case tC => k_is); (case hn => k_is); (case ht => k_is); (case sa => k_is); (case no => intro f hf; simp only [List.mem_cons, List.mem_nil_iff, or_false] at hf; subst hf; k_is); (case a1 => k_is); (case t1 => k_is); (case l => k_is); (case c => k_is); (case k => k_is))
      (case E14 => refine' N.own_mk KX G ?aC ?xL ?hb ?hnw ?kC ?ga ?gg ?eC ?hC ?ha ?hm ?tC ?hn ?ht ?sa ?no ?a1 ?t1 ?l ?c ?k; (case aC => k_is); (case xL => k_is); (case hb => rfl); (case hnw => rfl); (case kC => k_is); (case ga => k_is); (case gg => k_is); (case eC => k_is); (case hC => k_is); (case ha => k_is); (case hm => k_is); (case tC => k_is); (case hn => k_is); (case ht => k_is); (case sa => k_is); (case no => intro f hf; simp only [List.mem_cons, List.mem_nil_iff, or_false] at hf; subst hf; k_is); (case a1 => k_is); (case t1 => k_is); (case l => k_is); (case c => k_is); (case k => k_is))
      (case E15 => refine' N.own_mk KX G ?aC ?xL ?hb ?hnw ?kC ?ga ?gg ?eC ?hC ?ha ?hm ?tC ?hn ?ht ?sa ?no ?a1 ?t1 ?l ?c ?k; (case aC => k_is); (case xL => k_is); (case hb => rfl); (case hnw => rfl); (case kC => k_is); (case ga => k_is); (case gg => k_is); (case eC => k_is); (case hC => k_is); (case ha => k_is); (case hm => k_is); (case tC => k_is); (case hn => k_is); (case ht => k_is); (case sa => k_is); (case no => intro f hf; simp only [List.mem_cons, List.mem_nil_iff, or_false] at hf; subst hf; k_is); (case a1 => k_is); (case t1 => k_is); (case l => k_is); (case c => k_is); (case k => k_is))
      (case E16 => refine' N.own_mk KX G ?aC ?xL ?hb ?hnw ?kC ?ga ?gg ?eC ?hC ?ha ?hm ?tC ?hn ?ht ?sa ?no ?a1 ?t1 ?l ?c ?k; (case aC => k_is); (case xL => k_is); (case hb => rfl); (case hnw => rfl); (case kC => k_is); (case ga => k_is); (case gg => k_is); (case eC => k_is); (case hC => k_is); (case ha => k_is); (case hm => k_is); (case tC => k_is); (case hn => k_is); (case ht => k_is); (case sa => k_is); (case no => intro f hf; simp only [List.mem_cons, List.mem_nil_iff, or_false] at hf; subst hf; k_is); (case a1 => k_is); (case t1 => k_is); (case l => k_is); (case c => k_is); (case k => k_is))
      (case E17 => refine' N.own_mk KX G ?aC ?xL ?hb ?hnw ?kC ?ga ?gg ?eC ?hC ?ha ?hm ?tC ?hn ?ht ?sa ?no ?a1 ?t1 ?l ?c ?k; (case aC => k_is); (case xL => k_is); (case hb => rfl); (case hnw => rfl); (case kC => k_is); (case ga => k_is); (case gg => k_is); (case eC => k_is); (case hC => k_is); (case ha => k_is); (case hm => k_is); (case tC => k_is); (case hn => k_is); (case ht => k_is); (case sa => k_is); (case no => intro f hf; simp only [List.mem_cons, List.mem_nil_iff, or_false] at hf; subst hf; k_is); (case a1 => k_is); (case t1 => k_is); (case l => k_is); (case c => k_is); (case k => k_is))
      (case E18 => refine' N.own_mk KX G ?aC ?xL ?hb ?hnw ?kC ?ga ?gg ?eC ?hC ?ha ?hm ?tC ?hn ?ht ?sa ?no ?a1 ?t1 ?l ?c ?k; (case aC => k_is); (case xL => k_is); (case hb => rfl); (case hnw => rfl); (case kC => k_is); (case ga => k_is); (case gg => k_is); (case eC => k_is); (case hC => k_is); (case ha => k_is); (case hm => k_is); (case tC => k_is); (case hn => k_is); (case ht => k_is); (case sa => k_is); (case no => intro f hf; simp only [List.mem_cons, List.mem_nil_iff, or_false] at hf; subst hf; k_is); (case a1 => k_is); (case t1 => k_is); (case l => k_is); (case c => k_is); (case k => k_is))
      (case E19 => refine' N.own_mk KX G ?aC ?xL ?hb ?hnw ?kC ?ga ?gg ?eC ?hC ?ha ?hm ?tC ?hn ?ht ?sa ?no ?a1 ?t1 ?l ?c ?k; (case aC => k_is); (case xL => k_is); (case hb => rfl); (case hnw => rfl); (case kC => k_is); (case ga => k_is); (case gg => k_is); (case eC => k_is); (case hC => k_is); (case ha => k_is); (case hm => k_is); (case tC => k_is); (case hn => k_is); (case ht => k_is); (case sa => k_is); (case no => intro f hf; simp only [List.mem_cons, List.mem_nil_iff, or_false] at hf; subst hf; k_is); (case a1 => k_is); (case t1 => k_is); (case l => k_is); (case c => k_is); (case k => k_is))
      (case E20 => refine' N.own_mk KX G ?aC ?xL ?hb ?hnw ?kC ?ga ?gg ?eC ?hC ?ha ?hm ?tC ?hn ?ht ?sa ?no ?a1 ?t1 ?l ?c ?k; (case aC => k_is); (case xL => k_is); (case hb => rfl); (case hnw => rfl); (case kC => k_is); (case ga => k_is); (case gg => k_is); (case eC => k_is); (case hC => k_is); (case ha => k_is); (case hm => k_is); (case tC => k_is); (case hn => k_is); (case ht => k_is); (case sa => k_is); (case no => intro f hf; simp only [List.mem_cons, List.mem_nil_iff, or_false] at hf; subst hf; k_is); (case a1 => k_is); (case t1 => k_is); (case l => k_is); (case c => k_is); (case k => k_is))
      (case E21 => refine' N.own_mk KX G ?aC ?xL ?hb ?hnw ?kC ?ga ?gg ?eC ?hC ?ha ?hm ?tC ?hn ?ht ?sa ?no ?a1 ?t1 ?l ?c ?k; (case aC => k_is); (case xL => k_is); (case hb => rfl); (case hnw => rfl); (case kC => k_is); (case ga => k_is); (case gg => k_is); (case eC => k_is); (case hC => k_is); (case ha => k_is); (case hm => k_is); (case tC => k_is); (case hn => k_is); (case ht => k_is); (case sa => k_is); (case no => intro f hf; simp only [List.mem_cons, List.mem_nil_iff, or_false] at hf; subst hf; k_is); (case a1 => k_is); (case t1 => k_is); (case l => k_is); (case c => k_is); (case k => k_is))
      (case E22 => refine' N.own_mk KX G ?aC ?xL ?hb ?hnw ?kC ?ga ?gg ?eC ?hC ?ha ?hm ?tC ?hn ?ht ?sa ?no ?a1 ?t1 ?l ?c ?k; (case aC => k_is); (case xL => k_is); (case hb => rfl); (case hnw => rfl); (case kC => k_is); (case ga => k_is); (case gg => k_is); (case eC => k_is); (case hC => k_is); (case ha => k_is); (case hm => k_is); (case tC => k_is); (case hn => k_is); (case ht => k_is); (case sa => k_is); (case no => intro f hf; simp only [List.mem_cons, List.mem_nil_iff, or_false] at hf; subst hf; k_is); (case a1 => k_is); (case t1 => k_is); (case l => k_is); (case c => k_is); (case k => k_is))
      (case E23 => refine' N.own_mk KX G ?aC ?xL ?hb ?hnw ?kC ?ga ?gg ?eC ?hC ?ha ?hm ?tC ?hn ?ht ?sa ?no ?a1 ?t1 ?l ?c ?k; (case aC => k_is); (case xL => k_is); (case hb => rfl); (case hnw => rfl); (case kC => k_is); (case ga => k_is); (case gg => k_is); (case eC => k_is); (case hC => k_is); (case ha => k_is); (case hm => k_is); (case tC => k_is); (case hn => k_is); (case ht => k_is); (case sa => k_is); (case no => intro f hf; simp only [List.mem_cons, List.mem_nil_iff, or_false] at hf; subst hf; k_is); (case a1 => k_is); (case t1 => k_is); (case l => k_is); (case c => k_is); (case k => k_is))
      (case E24 => refine' N.own_mk KX G ?aC ?xL ?hb ?hnw ?kC ?ga ?gg ?eC ?hC ?ha ?hm ?tC ?hn ?ht ?sa ?no ?a1 ?t1 ?l ?c ?k; (case aC => k_is); (case xL => k_is); (case hb => rfl); (case hnw => rfl); (case kC => k_is); (case ga => k_is); (case gg => k_is); (case eC => k_is); (case hC => k_is); (case ha => k_is); (case hm => k_is); (case tC => k_is); (case hn => k_is); (case ht => k_is); (case sa => k_is); (case no => intro f hf; simp only [List.mem_cons, List.mem_nil_iff, or_false] at hf; subst hf; k_is); (case a1 => k_is); (case t1 => k_is); (case l => k_is); (case c => k_is); (case k => k_is))
      (case E25 => refine' N.own_mk KX G ?aC ?xL ?hb ?hnw ?kC ?ga ?gg ?eC ?hC ?ha ?hm ?tC ?hn ?ht ?sa ?no ?a1 ?t1 ?l ?c ?k; (case aC => k_is); (case xL => k_is); (case hb => rfl); (case hnw => rfl); (case kC => k_is); (case ga => k_is); (case gg => k_is); (case eC => k_is); (case hC => k_is); (case ha => k_is); (case hm => k_is); (case tC => k_is); (case hn => k_is); (case ht => k_is); (case sa => k_is); (case no => intro f hf; simp only [List.mem_cons, List.mem_nil_iff, or_false] at hf; subst hf; k_is); (case a1 => k_is); (case t1 => k_is); (case l => k_is); (case c => k_is); (case k => k_is))
      (case E26 => refine' N.own_mk KX G ?aC ?xL ?hb ?hnw ?kC ?ga ?gg ?eC ?hC ?ha ?hm ?tC ?hn ?ht ?sa ?no ?a1 ?t1 ?l ?c ?k; (case aC => k_is); (case xL => k_is); (case hb => rfl); (case hnw => rfl); (case kC => k_is); (case ga => k_is); (case gg => k_is); (case eC => k_is); (case hC => k_is); (case ha => k_is); (case hm => k_is); (case tC => k_is); (case hn => k_is); (case ht => k_is); (case sa => k_is); (case no => intro f hf; simp only [List.mem_cons, List.mem_nil_iff, or_false] at hf; subst hf; k_is); (case a1 => k_is); (case t1 => k_is); (case l => k_is); (case c => k_is); (case k => k_is))
      (case E27 => refine' N.own_mk KX G ?aC ?xL ?hb ?hnw ?kC ?ga ?gg ?eC ?hC ?ha ?hm ?tC ?hn ?ht ?sa ?no ?a1 ?t1 ?l ?c ?k; (case aC => k_is); (case xL => k_is); (case hb => rfl); (case hnw => rfl); (case kC => k_is); (case ga => k_is); (case gg => k_is); (case eC => k_is); (case hC => k_is); (case ha => k_is); (case hm => k_is); (case tC => k_is); (case hn => k_is); (case ht => k_is); (case sa => k_is); (case no => intro f hf; simp only [List.mem_cons, List.mem_nil_iff, or_false] at hf; subst hf; k_is); (case a1 => k_is); (case t1 => k_is); (case l => k_is); (case c => k_is); (case k => k_is))
      (case E28 => refine' N.own_mk KX G ?aC ?xL ?hb ?hnw ?kC ?ga ?gg ?eC ?hC ?ha ?hm ?tC ?hn ?ht ?sa ?no ?a1 ?t1 ?l ?c ?k; (case aC => k_is); (case xL => k_is); (case hb => rfl); (case hnw => rfl); (case kC => k_is); (case ga => k_is); (case gg => k_is); (case eC => k_is); (case hC => k_is); (case ha => k_is); (case hm => k_is); (case tC => k_is); (case hn => k_is); (case ht => k_is); (case sa => k_is); (case no => intro f hf; simp only [List.mem_cons, List.mem_nil_iff, or_false] at hf; subst hf; k_is); (case a1 => k_is); (case t1 => k_is); (case l => k_is); (case c => k_is); (case k => k_is))
      (case E29 => refine' N.own_mk KX G ?aC ?xL ?hb ?hnw ?kC ?ga ?gg ?eC ?hC ?ha ?hm ?tC ?hn ?ht ?sa ?no ?a1 ?t1 ?l ?c ?k; (case aC => k_is); (case xL => k_is); (case hb => rfl); (case hnw => rfl); (case kC => k_is); (case ga => k_is); (case gg => k_is); (case eC => k_is); (case hC => k_is); (case ha => k_is); (case hm => k_is); (case tC => k_is); (case hn => k_is); (case ht => k_is); (case sa => k_is); (case no => intro f hf; simp only [List.mem_cons, List.mem_nil_iff, or_false] at hf; subst hf; k_is); (case a1 => k_is); (case t1 => k_is); (case l => k_is); (case c => k_is); (case k => k_is))
      (case E30 => refine' N.own_mk KX G ?aC ?xL ?hb ?hnw ?kC ?ga ?gg ?eC ?hC ?ha ?hm ?tC ?hn ?ht ?sa ?no ?a1 ?t1 ?l ?c ?k; (case aC => k_is); (case xL => k_is); (case hb => rfl); (case hnw => rfl); (case kC => k_is); (case ga => k_is); (case gg => k_is); (case eC => k_is); (case hC => k_is); (case ha => k_is); (case hm => k_is); (case tC => k_is); (case hn => k_is); (case ht => k_is); (case sa => k_is); (case no => intro f hf; simp only [List.mem_cons, List.mem_nil_iff, or_false] at hf; subst hf; k_is); (case a1 => k_is); (case t1 => k_is); (case l => k_is); (case c => k_is); (case k => k_is))
      (case E31 => refine' N.own_mk KX G ?aC ?xL ?hb ?hnw ?kC ?ga ?gg ?eC ?hC ?ha ?hm ?tC ?hn ?ht ?sa ?no ?a1 ?t1 ?l ?c ?k; (case aC => k_is); (case xL => k_is); (case hb => rfl); (case hnw => rfl); (case kC => k_is); (case ga => k_is); (case gg => k_is); (case eC => k_is); (case hC => k_is); (case ha => k_is); (case hm => k_is); (case tC => k_is); (case hn => k_is); (case ht => k_is); (case sa => k_is); (case no => intro f hf; simp only [List.mem_cons, List.mem_nil_iff, or_false] at hf; subst hf; k_is); (case a1 => k_is); (case t1 => k_is); (case l => k_is); (case c => k_is); (case k => k_is))
      (case E32 => refine' N.own_mk KX G ?aC ?xL ?hb ?hnw ?kC ?ga ?gg ?eC ?hC ?ha ?hm ?tC ?hn ?ht ?sa ?no ?a1 ?t1 ?l ?c ?k; (case aC => k_is); (case xL => k_is); (case hb => rfl); (case hnw => rfl); (case kC => k_is); (case ga => k_is); (case gg => k_is); (case eC => k_is); (case hC => k_is); (case ha => k_is); (case hm => k_is); (case tC => k_is); (case hn => k_is); (case ht => k_is); (case sa => k_is); (case no => intro f hf; simp only [List.mem_cons, List.mem_nil_iff, or_false] at hf; rcases hf with rfl | rfl <;> k_is); (case a1 => k_is); (case t1 => k_is); (case l => k_is); (case c => k_is); (case k => k_is))
      (case E33 => refine' N.own_mk KX G ?aC ?xL ?hb ?hnw ?kC ?ga ?gg ?eC ?hC ?ha ?hm ?tC ?hn ?ht ?sa ?no ?a1 ?t1 ?l ?c ?k; (case aC => k_is); (case xL => k_is); (case hb => rfl); (case hnw => rfl); (case kC => k_is); (case ga => k_is); (case gg => k_is); (case eC => k_is); (case hC => k_is); (case ha => k_is); (case hm => k_is); (case tC => k_is); (case hn => k_is); (case ht => k_is); (case sa => k_is); (case no => intro f hf; simp only [List.mem_cons, List.mem_nil_iff, or_false] at hf; rcases hf with rfl | rfl <;> k_is); (case a1 => k_is); (case t1 => k_is); (case l => k_is); (case c => k_is); (case k => k_is))
      (case E34 => refine' N.own_mk KX G ?aC ?xL ?hb ?hnw ?kC ?ga ?gg ?eC ?hC ?ha ?hm ?tC ?hn ?ht ?sa ?no ?a1 ?t1 ?l ?c ?k; (case aC => k_is); (case xL => k_is); (case hb => rfl); (case hnw => rfl); (case kC => k_is); (case ga => k_is); (case gg => k_is); (case eC => k_is); (case hC => k_is); (case ha => k_is); (case hm => k_is); (case tC => k_is); (case hn => k_is); (case ht => k_is); (case sa => k_is); (case no => intro f hf; simp only [List.mem_cons, List.mem_nil_iff, or_false] at hf; rcases hf with rfl | rfl <;> k_is); (case a1 => k_is); (case t1 => k_is); (case l => k_is); (case c => k_is); (case k => k_is))
      (case E35 => refine' N.plain_mk KX G ?aC ?xL ?hb ?kC ?ga ?gg ?eC ?hC ?ha ?hm ?tC ?hn ?ht ?ex; (case aC => k_is); (case xL => k_is); (case hb => rfl); (case kC => k_is); (case ga => k_is); (case gg => k_is); (case eC => k_is); (case hC => k_is); (case ha => k_is); (case hm => k_is); (case tC => k_is); (case hn => k_is); (case ht => k_is); (case ex => first | k_exc | k_is))
      (case E36 => refine' N.plain_mk KX G ?aC ?xL ?hb ?kC ?ga ?gg ?eC ?hC ?ha ?hm ?tC ?hn ?ht ?ex; (case aC => k_is); (case xL => k_is); (case hb => rfl); (case kC => k_is); (case ga => k_is); (case gg => k_is); (case eC => k_is); (case hC => k_is); (case ha => k_is); (case hm => k_is); (case tC => k_is); (case hn => k_is); (case ht => k_is); (case ex => first | k_exc | k_is))
      (case n0 => exact PySem.W.mg_none_of KX G (by k_is))
      (case n1 => exact PySem.W.mg_none_of KX G (by k_is))
      (case n2 => exact PySem.W.mg_none_of KX G (by k_is))
      (case n3 => exact PySem.W.mg_none_of KX G (by k_is))
      (case nd => decide))
    (case F1 => refine' L2.funAt_mk KX G ?a ?l ?c ?k; (case a => k_is); (case l => k_is); (case c => k_is); (case k => k_is))
    (case F2 => refine' L2.funAt_mk KX G ?a ?l ?c ?k; (case a => k_is); (case l => k_is); (case c => k_is); (case k => k_is))
    (case F3 => refine' L2.funAt_mk KX G ?a ?l ?c ?k; (case a => k_is); (case l => k_is); (case c => k_is); (case k => k_is))
    (case F4 => refine' L2.funAt_mk KX G ?a ?l ?c ?k; (case a => k_is); (case l => k_is); (case c => k_is); (case k => k_is))
    (case F5 => refine' L2.funAt_mk KX G ?a ?l ?c ?k; (case a => k_is); (case l => k_is); (case c => k_is); (case k => k_is))
    (case F6 => refine' L2.funAt_mk KX G ?a ?l ?c ?k; (case a => k_is); (case l => k_is); (case c => k_is); (case k => k_is))
    (case F7 => refine' L2.funAt_mk KX G ?a ?l ?c ?k; (case a => k_is); (case l => k_is); (case c => k_is); (case k => k_is))
    (case F8 => refine' L2.funAt_mk KX G ?a ?l ?c ?k; (case a => k_is); (case l => k_is); (case c => k_is); (case k => k_is))
    (case F9 => refine' L2.funAt_mk KX G ?a ?l ?c ?k; (case a => k_is); (case l => k_is); (case c => k_is); (case k => k_is))
    (case F10 => refine' L2.funAt_mk KX G ?a ?l ?c ?k; (case a => k_is); (case l => k_is); (case c => k_is); (case k => k_is))
    (case F11 => refine' L2.funAt_mk KX G ?a ?l ?c ?k; (case a => k_is); (case l => k_is); (case c => k_is); (case k => k_is))
    (case F12 => refine' L2.funAt_mk KX G ?a ?l ?c ?k; (case a => k_is); (case l => k_is); (case c => k_is); (case k => k_is))
    (case F13 => refine' L2.funAt_mk KX G ?a ?l ?c ?k; (case a => k_is); (case l => k_is); (case c => k_is); (case k => k_is))

