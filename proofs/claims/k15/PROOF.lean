import PyProof.Rows.All
import Wide.All
import OpenK.AllK
import Wide.FinOn
import KE.KOpsOwn
import KE.KCallOwn
import PyProof.InstNe
import HandS.ForMost
import HandS.IsInst
import HandS.Property
import HandS.FStr
import HandS.WideBits
import HandS.Zip
import HandS.TupAny
import HandS.RaiseMore
import HandS.Defaults
import HandS.SlotsOwn
import KE.KFmtOwn
import PyProof.FactsAll.object_2
import HandS.Walk
import HandS.NoneIn
import HandS.Style
import HandS.Finally
import HandS.DictTup
import HandS.DictComp
import HandS.Keys
import PyProof.ReprRoads
import PyProof.Rows.NestShow
import HandS.ExcInit
import HandS.ExcField
import HandS.WordsExc
import HandS.ExcOwn
import HandS.TryMany
import HandS.EndTab
import KE.KNestM
import PyProof.StrLawsRepr
import HandS.MakeKwOnly
import PyProof.StrBlockL
import HandS.Lambda
import PySem.Challenge.RW_stitchsizes_k15_kinds_by_their_fields
set_option Elab.async false
set_option linter.all false
set_option maxRecDepth 100000
set_option maxHeartbeats 4000000
namespace L2
open PySem PySem.Spec PyProof.Rows
section
variable {X : Cx} {CX : CXT} {pins : List (Addr × Obj)} {σ : St} {H : Hp} {s : Shared} {a C dx g : Addr} {fs : List (Str × V)} {n : Nat} {sp : Sp} {E : XK} {fd : FuncData} {ps : List Str}

/-- a def of a class runs, called by an operation of the machine's own at A -/
theorem run_under {A : Around} {Q : VK} {us : List Value} {ws : List V} (F : FnOk X.prog X.w X.K X.mg X.base CX n g fd ps sp) (hb : Binds X.K fd ps []) (hr : Room n A)
    (e0 : Env0 X.prog X.w X.K X.mg X.base A X.stack s H) (hx : Passes CX X E) (I : Inv X pins σ H s) (r : Vals ws us) (h : sp ws H Q E) :
    wpAny (model X.prog X.w) A (call (.ref g) us) (EP X pins σ Q) X.xe s := by
  have hl : (us ++ []).length = ps.length := by
    rw [List.append_nil, ← F.len _ _ _ _ h, r.length]
  refine wpAny_call (codeAny_mono (F.run A X.stack s H ⟨us, []⟩ (us ++ []) ws Q E hr e0 (hb _ us I.kIn hl) (by rw [List.append_nil]; exact r) h) fun r' s' hq => ?_)
  cases r' with
  | error e => exact hx pins σ H s e s' I hq
  | ok fl =>
    cases fl with
    | ret u =>
      first
        | exact I.after hq
        | exact ⟨rfl, I.after hq⟩
    | next => exact False.elim hq
    | brk => exact False.elim hq
    | cont => exact False.elim hq

/-- what a dunder def hands back is no NotImplemented -/
theorem cmpback' {P : Value → Shared → Prop} {z : V} {v : Value} {s' : Shared} (r : RelV z v) (h : P v s') : PySem.W.CmpBack P v s' := SlX.cmpback r h

/-- a value's type, looked up -/
theorem looks_ty {x : V} {u t : Value} (I : Inv X pins σ H s) (rx : RelV x u) (ty : TyX X.K H x t) : PySem.W.Looks (model X.prog X.w) s.heap (typeOf u) t := by
  obtain ⟨P, k, hp, _⟩ := kit_of I rx ty
  exact k.ty _ _ I.kIn hp

/-- x op y, x an instance of the class at C whose def for op is at g -/
def rCmpOwn (K : PySem.W.Frag) (C : Addr) (sp : Sp) (E : XK) : R2 := fun x y H Q => ∃ a dx fs t, x = .ref a ∧ H a = some (.ins C dx fs) ∧ TyX K H y t ∧ PySem.W.notFirst K C t = true ∧ sp [x, y] H Q E
theorem op_cmpOwn {op : CmpOp} (hop : ∀ a b, compareOp op a b = richCompare op a b) (hs : PySem.W.findIn X.K (.ref C) (cmpInfo op).2.1 = some (some (.ref g))) (hf : PySem.W.isFn X.K (.ref g) = true)
    (F : FnOk X.prog X.w X.K X.mg X.base CX n g fd ps sp) (hb : Binds X.K fd ps []) (hr : Room n X.A) (hx : Passes CX X E) : OpR X (compareOp op) (rCmpOwn X.K C sp E) := by
  intro pins s σ H x y v u Q I rx ry h
  obtain ⟨a, dx, fs, t, rfl, ha, ht, hn, q⟩ := h
  cases (show v = Value.ref a from rx)
  obtain ⟨mA, O, _, _, _, _⟩ := ins_get I.hok ha
  obtain ⟨od, J, _⟩ := O.look
  obtain ⟨m, hF⟩ := I.fr
  rw [hop]
  refine PySem.W.cmp_K (op := op) (tb := t) hr.units0 hF I.ok.mod.kin J (looks_ty I ry ht) hn hs hf ?_
  refine wpAny_mono (run_fn (us := [.ref a, u]) (vs := [.ref a, y]) (dvs := []) F hr hb .nil hx I (.cons rfl (.cons ry .nil)) (by simpa using q)) (fun w s' z => ?_) fun _ _ x => x
  obtain ⟨z', H', I', rz, qz⟩ := z
  exact cmpback' rz ⟨z', H', I', rz, qz⟩
theorem op_eqOwn (hs : PySem.W.findIn X.K (.ref C) "__eq__" = some (some (.ref g))) (hf : PySem.W.isFn X.K (.ref g) = true)
    (F : FnOk X.prog X.w X.K X.mg X.base CX n g fd ps sp) (hb : Binds X.K fd ps []) (hr : Room n X.A) (hx : Passes CX X E) : OpR X (compareOp .Eq) (rCmpOwn X.K C sp E) :=
  op_cmpOwn (fun _ _ => rfl) hs hf F hb hr hx

/-- -x, x an instance -/
def rUnOwn (C : Addr) (sp : Sp) (E : XK) : V → Hp → VK → Prop := fun x H Q => ∃ a dx fs, x = .ref a ∧ H a = some (.ins C dx fs) ∧ sp [x] H Q E
theorem un_negOwn (hs : PySem.W.findIn X.K (.ref C) "__neg__" = some (some (.ref g))) (hf : PySem.W.isFn X.K (.ref g) = true)
    (F : FnOk X.prog X.w X.K X.mg X.base CX n g fd ps sp) (hb : Binds X.K fd ps []) (hr : Room n X.A) (hx : Passes CX X E) : UnR X (unaryOp .USub) (rUnOwn C sp E) := by
  intro pins s σ H x v Q I rx h
  obtain ⟨a, dx, fs, rfl, ha, q⟩ := h
  cases (show v = Value.ref a from rx)
  obtain ⟨mA, O, _, _, _, _⟩ := ins_get I.hok ha
  obtain ⟨od, J, _⟩ := O.look
  obtain ⟨m, hF⟩ := I.fr
  refine PySem.W.ksp_neg hF I.ok.mod.kin J hs hf ?_
  exact run_fn (us := [.ref a]) (vs := [.ref a]) (dvs := []) F hr hb .nil hx I (.cons rfl .nil) (by simpa using q)

/-- x op y, x an instance of the class at C whose def for op is at g; y an instance of the same class -/
def rBinSame (C : Addr) (sp : Sp) (E : XK) : R2 := fun x y H Q => ∃ a dx fs b dy gs, x = .ref a ∧ y = .ref b ∧ H a = some (.ins C dx fs) ∧ H b = some (.ins C dy gs) ∧ sp [x, y] H Q E
theorem op_binSame {op : Operator} (hc : PySem.W.selfFirst X.K C = true) (hs : PySem.W.findIn X.K (.ref C) (PySem.dunder op.info.2) = some (some (.ref g))) (hf : PySem.W.isFn X.K (.ref g) = true)
    (F : FnOk X.prog X.w X.K X.mg X.base CX n g fd ps sp) (hb : Binds X.K fd ps []) (hr : Room n X.A) (hx : Passes CX X E) : OpR X (binaryOp op) (rBinSame C sp E) := by
  intro pins s σ H x y v u Q I rx ry h
  obtain ⟨a, dx, fs, b, dy, gs, rfl, rfl, ha, hbb, q⟩ := h
  cases (show v = Value.ref a from rx)
  cases (show u = Value.ref b from ry)
  obtain ⟨mA, O, _, _, _, _⟩ := ins_get I.hok ha
  obtain ⟨od, J, _⟩ := O.look
  obtain ⟨mB, O', _, _, _, _⟩ := ins_get I.hok hbb
  obtain ⟨od', J', _⟩ := O'.look
  obtain ⟨m, hF⟩ := I.fr
  refine PySem.W.binop_K (op := op) hF I.ok.mod.kin J J'.type hc hs hf ?_
  refine wpAny_mono (run_fn (us := [.ref a, .ref b]) (vs := [.ref a, .ref b]) (dvs := []) F hr hb .nil hx I (.cons rfl (.cons rfl .nil)) (by simpa using q)) (fun w s' z => ?_) fun _ _ x => x
  obtain ⟨z', H', I', rz, qz⟩ := z
  exact cmpback' rz ⟨z', H', I', rz, qz⟩
/-- x op n, n an int -/
def rBinInt (C : Addr) (sp : Sp) (E : XK) : R2 := fun x y H Q => ∃ a dx fs i, x = .ref a ∧ y = .int i ∧ H a = some (.ins C dx fs) ∧ sp [x, y] H Q E
theorem op_binInt {op : Operator} {fo ro rc : Option Value} (hc : PySem.W.selfFirst X.K C = true) (hs : PySem.W.findIn X.K (.ref C) (PySem.dunder op.info.2) = some (some (.ref g))) (hf : PySem.W.isFn X.K (.ref g) = true)
    (hR : PySem.W.findIn X.K (.ref C) (dunderR op.info.2) = some rc) (hp : rc = none ∨ ∃ g : Addr, rc = some (.ref g))
    (h1 : PySem.W.findIn X.K (.type "int") (PySem.dunder op.info.2) = some fo) (h2 : PySem.W.findIn X.K (.type "int") (dunderR op.info.2) = some ro) (hsub : PySem.W.subIn X.K (.type "int") (.ref C) = some false)
    (F : FnOk X.prog X.w X.K X.mg X.base CX n g fd ps sp) (hb : Binds X.K fd ps []) (hr : Room n X.A) (hx : Passes CX X E) : OpR X (binaryOp op) (rBinInt C sp E) := by
  intro pins s σ H x y v u Q I rx ry h
  obtain ⟨a, dx, fs, i, rfl, rfl, ha, q⟩ := h
  cases (show v = Value.ref a from rx)
  obtain ⟨t, e⟩ := (show ∃ t, u = Value.int i t from ry)
  cases e
  obtain ⟨mA, O, _, _, _, _⟩ := ins_get I.hok ha
  obtain ⟨od, J, _⟩ := O.look
  obtain ⟨m, hF⟩ := I.fr
  refine PySem.W.ksp_binT (op := op) (T := "int") hF I.ok.mod.kin J rfl hc hs hf hR hp h1 h2 hsub ?_
  refine wpAny_mono (run_fn (us := [.ref a, .int i t]) (vs := [.ref a, .int i]) (dvs := []) F hr hb .nil hx I (.cons rfl (.cons ⟨t, rfl⟩ .nil)) (by simpa using q)) (fun w s' z => ?_) fun _ _ x => x
  obtain ⟨z', H', I', rz, qz⟩ := z
  exact cmpback' rz ⟨z', H', I', rz, qz⟩

/-- repr(x), x an instance whose class has its own __repr__ -/
def rReprOwn (C : Addr) (sp : Sp) (E : XK) : List V → Hp → VK → Prop := fun xs H Q => ∃ a dx fs, xs = [V.ref a] ∧ H a = some (.ins C dx fs) ∧ sp [.ref a] H (fun z H' => ∃ y, z = .str y ∧ Q z H') E
theorem strback {P : Value → Shared → Prop} {y : Str} {v : Value} {s' : Shared} (r : RelV (.str y) v) (h : P v s') : PySem.W.StrBack P v s' := by
  obtain ⟨t, e⟩ := (show ∃ t, v = Value.str y t from r)
  cases e
  exact h
theorem call_reprOwn (hs : PySem.W.findIn X.K (.ref C) "__repr__" = some (some (.ref g))) (hf : PySem.W.isFn X.K (.ref g) = true)
    (F : FnOk X.prog X.w X.K X.mg X.base CX n g fd ps sp) (hb : Binds X.K fd ps []) (hr : Room (n + 1) X.A) (hx : Passes CX X E) : CallR X (.builtin "repr") (rReprOwn C sp E) := by
  intro pins s σ H xs us Q I r h
  obtain ⟨a, dx, fs, rfl, ha, q⟩ := h
  obtain ⟨u, rfl, ru⟩ := r.one
  cases (show u = Value.ref a from ru)
  obtain ⟨mA, O, _, _, _, _⟩ := ins_get I.hok ha
  obtain ⟨od, J, _⟩ := O.look
  obtain ⟨m, hF⟩ := I.fr
  refine PySem.W.repr_K hr.in1.units0 hF I.ok.mod.kin J hs hf ?_
  refine wpAny_mono (run_under (us := [.ref a]) (ws := [.ref a]) F hb hr.in1 I.env0.in1 hx I (.cons rfl .nil) q) (fun w s' z => ?_) fun _ _ x => x
  obtain ⟨z', H', I', rz, y, ey, qz⟩ := z
  subst ey
  exact strback rz ⟨.str y, H', I', rz, qz⟩
theorem call_strOwn (hs : PySem.W.findIn X.K (.ref C) "__str__" = some (some (.ref g))) (hf : PySem.W.isFn X.K (.ref g) = true)
    (F : FnOk X.prog X.w X.K X.mg X.base CX n g fd ps sp) (hb : Binds X.K fd ps []) (hr : Room (n + 2) X.A) (hx : Passes CX X E) : CallR X (.type "str") (rReprOwn C sp E) := by
  intro pins s σ H xs us Q I r h
  obtain ⟨a, dx, fs, rfl, ha, q⟩ := h
  obtain ⟨u, rfl, ru⟩ := r.one
  cases (show u = Value.ref a from ru)
  obtain ⟨mA, O, _, _, _, _⟩ := ins_get I.hok ha
  obtain ⟨od, J, _⟩ := O.look
  have hr2 : Room n X.A.in1.in1 := (show Room (n + 1) X.A.in1 from Room.in1 hr).in1
  refine PySem.W.kso_call hr2.units0 I.kIn J hs hf ?_
  refine wpAny_mono (run_under (us := [.ref a]) (ws := [.ref a]) F hb hr2 I.env0.in1.in1 hx I (.cons rfl .nil) q) (fun w s' z => ?_) fun _ _ x => x
  obtain ⟨z', H', I', rz, y, ey, qz⟩ := z
  subst ey
  exact strback rz ⟨.str y, H', I', rz, qz⟩
section
open PySem.W
variable {prog : Program} {w : World} {M : Model} {A : Around} {E : Value → Shared → Prop} {s : Shared} {K : Frag} {x C f : Addr} {ox : Obj} {od : Option Obj} {name : Str}
theorem ifBound_B {id : String} {args : List Value} {Q : Option Value → Shared → Prop} (X : K.In s.heap) (I : InstAt s.heap x ox C od) (hs : findIn K (.ref C) name = some (some (.builtin id)))
    (hb : ∀ self, bindSpecial (.builtin id) self = pure (.builtin id, [self])) (h : wpAny M A (call (.builtin id) (.ref x :: args)) (fun v => Q (some v)) E s) : wpAny M A (callSpecialIfBound? (.ref x) name args) Q E s := by
  simp only [callSpecialIfBound?, bindSpecialIfBound?]
  refine wpAny_holding (wpAny_bind (wpAny_bind (wpAny_bind (I.type.here ((looks_findIn X hs).here ?_)))))
  refine wpAny_bind (wpAny_askSetting (wpAny_ite ?_))
  have fin : wpAny M A (call (.builtin id) ([.ref x] ++ args) >>= fun v => pure (some v)) Q E s := wpAny_bind (wpAny_mono h (fun v s' h' => wpAny_pure h') fun _ _ h' => h')
  split
  · exact wpAny_bind ((Looks.of_pure (hb _)).here (wpAny_pure (by exact fin)))
  · exact wpAny_tryCatch (wpAny_bind ((Looks.of_pure (hb _)).here (wpAny_pure (by exact fin))))
/-- object.__ne__ asks the own __eq__ -/
theorem one_K {b : Value} {Q : Value → Shared → Prop} (hu : A.in1.units < cLine) (X : K.In s.heap) (I : InstAt s.heap x ox C od) (hm : mroIn K C (.type "object") = some true)
    (he : findIn K (.ref C) "__eq__" = some (some (.ref f))) (hf : isFn K (.ref f) = true)
    (h : wpAny (model prog w) A.in1 (call (.ref f) [.ref x, b]) (fun v s' => ∃ r, v = .bool r ∧ Q (.bool (!r)) s') E s) : wpAny (model prog w) A (call (.builtin "object.__ne__") [.ref x, b]) Q E s := by
  refine wpAny_call (codeAny_call_builtin PySem.F.slot_object_ne.plain PySem.F.cmpEntry_ne (check_slot (i := "object.__ne__") (owner := "object") (n := "__ne__") (by decide +kernel) (by decide +kernel) (I.type.andThen (looks_mroIn X hm)) (PySem.F.cmpArgs_ne _ _) ?_))
  unfold Builtin.«object.__ne__»
  repeat (first
    | with_reducible refine wpAny_cRoomFor hu ?_
    | (refine wpAny_bind (m := callSpecialIfBound? (.ref x) (Str.ofString "__eq__") [b])
        (ifBound_K X I he hf (wpAny_mono h (fun r s' hr => by
          obtain ⟨b, rfl, hq⟩ := hr
          repeat (first | exact hq | exact wpAny_pure hq | exact wpAny_truthy_bool hq | (refine wpAny_bind (m := truthy (.bool _)) (wpAny_truthy_bool ?_)) | wp_step)) fun _ _ e => e)))
    | wp_step)
theorem ne_own {b tb : Value} {Q : Value → Shared → Prop} (hu : A.in1.units < cLine) (hu0 : A.units < cLine) (X : K.In s.heap) (I : InstAt s.heap x ox C od) (hb : Looks (model prog w) s.heap (typeOf b) tb) (hn : notFirst K C tb = true)
    (hm : mroIn K C (.type "object") = some true) (hne : findIn K (.ref C) "__ne__" = some (some (.builtin "object.__ne__")))
    (he : findIn K (.ref C) "__eq__" = some (some (.ref f))) (hf : isFn K (.ref f) = true)
    (h : wpAny (model prog w) A.in1 (call (.ref f) [.ref x, b]) (fun v s' => ∃ r, v = .bool r ∧ Q (.bool (!r)) s') E s) : wpAny (model prog w) A (richCompare .NotEq (.ref x) b) Q E s := by
  have one : wpAny (model prog w) A (tryCompare (.ref x) (cmpInfo .NotEq).2.1 b) (fun r s' => ∃ v, r = some v ∧ Q v s') E s := by
    unfold tryCompare
    refine wpAny_bind (ifBound_B X I hne PySem.F.slot_object_ne.bind (one_K hu X I hm he hf (wpAny_mono h (fun v s' hv => ?_) fun _ _ e => e)))
    obtain ⟨r, rfl, hq⟩ := hv
    exact ⟨r, rfl, wpAny_pure ⟨_, rfl, hq⟩⟩
  unfold richCompare
  simp only [oneThing_ref]
  refine wpAny_holding (wpAny_bind (wpAny_cRoomFor hu0 ?_))
  refine wpAny_bind (I.type.here (wpAny_bind (hb.here ?_)))
  split
  · rename_i q
    have e : subIn K tb (.ref C) = some false := by
      rcases Bool.or_eq_true_iff.mp hn with e | e
      · rw [beq_iff_eq.mp e] at q; simp at q
      · exact beq_iff_eq.mp e
    refine wpAny_bind ((looks_subIn X e).here ?_)
    simp only [Bool.false_eq_true, if_false]
    refine wpAny_bind (wpAny_mono one (fun r s' z => ?_) fun _ _ e => e)
    obtain ⟨v, rfl, hq⟩ := z
    exact wpAny_pure hq
  · refine wpAny_bind (wpAny_pure ?_)
    simp only [Bool.false_eq_true, if_false]
    refine wpAny_bind (wpAny_mono one (fun r s' z => ?_) fun _ _ e => e)
    obtain ⟨v, rfl, hq⟩ := z
    exact wpAny_pure hq
end
/-- x != y, by the own __eq__ -/
def rNeOwn (K : PySem.W.Frag) (C : Addr) (sp : Sp) (E : XK) : R2 := fun x y H Q => ∃ a dx fs t, x = .ref a ∧ H a = some (.ins C dx fs) ∧ TyX K H y t ∧ PySem.W.notFirst K C t = true ∧ sp [x, y] H (fun z H' => ∃ r, z = .bl r ∧ Q (.bl (!r)) H') E
theorem op_neOwn (hm : PySem.W.mroIn X.K C (.type "object") = some true) (hne : PySem.W.findIn X.K (.ref C) "__ne__" = some (some (.builtin "object.__ne__"))) (hs : PySem.W.findIn X.K (.ref C) "__eq__" = some (some (.ref g))) (hf : PySem.W.isFn X.K (.ref g) = true)
    (F : FnOk X.prog X.w X.K X.mg X.base CX n g fd ps sp) (hb : Binds X.K fd ps []) (hr : Room (n + 1) X.A) (hx : Passes CX X E) : OpR X (compareOp .NotEq) (rNeOwn X.K C sp E) := by
  intro pins s σ H x y v u Q I rx ry h
  obtain ⟨a, dx, fs, t, rfl, ha, ht, hn, q⟩ := h
  cases (show v = Value.ref a from rx)
  obtain ⟨mA, O, _, _, _, _⟩ := ins_get I.hok ha
  obtain ⟨od, J, _⟩ := O.look
  show wpAny _ _ (richCompare .NotEq _ _) _ _ _
  refine ne_own (tb := t) hr.in1.units0 hr.units0 I.kIn J (looks_ty I ry ht) hn hm hne hs hf ?_
  refine wpAny_mono (run_under (us := [.ref a, u]) (ws := [.ref a, y]) F hb hr.in1 I.env0.in1 hx I (.cons rfl (.cons ry .nil)) q) (fun w s' z => ?_) fun _ _ x => x
  obtain ⟨z', H', I', rz, r, ez, qz⟩ := z
  subst ez
  cases (show w = Value.bool r from rz)
  exact ⟨r, rfl, .bl (!r), H', I', rfl, qz⟩
/-- repr of True, False -/
theorem call_repr_bool : CallR X (.builtin "repr") (fun xs H Q => ∃ b, xs = [.bl b] ∧ Q (.str (if b then "True" else "False")) H) := by
  intro pins s σ H xs us Q I r h
  obtain ⟨b, rfl, q⟩ := h
  obtain ⟨u, rfl, ru⟩ := r.one
  cases (show u = Value.bool b from ru)
  exact PySem.P.repr_of_bool ⟨.str _, H, I.tok _, ⟨_, rfl⟩, q⟩
end
end L2

set_option maxHeartbeats 4000000
namespace L2
open PySem PySem.Spec PyProof.Rows
/-! ### a def of the module as it stands behind the top, and what it promises -/
structure FunAt (K : PySem.W.Frag) (mg : Str → Option Value) (x qual : Str) (st : Stmt) : Prop where
  ex : ∃ (f : Addr) (fd : FuncData), mg x = some (.ref f) ∧ Fun K x qual st f fd
structure Has (P : Program) (w : World) (K : PySem.W.Frag) (mg : Str → Option Value) (base : Heap) (x : Str) (k : Nat) (ps : List Str) (sp : Sp) : Prop where
  ex : ∃ (f : Addr) (fd : FuncData), mg x = some (.ref f) ∧ PySem.W.keepIn K (.ref f) = true ∧ Binds K fd ps [] ∧ FnOk P w K mg base CX0 k f fd ps sp
section
variable {P : Program} {w : World} {K : PySem.W.Frag} {mg : Str → Option Value} {base : Heap}
theorem has_of {x qual : Str} {st : Stmt} {N ps : List Str} {k : Nat} {sp : Sp} (F : FunAt K mg x qual st) (S : FnScope N ps (defScope st))
    (hb : ∀ (kV doc pm : Value) (an : Option Addr) (cdv ct : Value) (us : List Value), us.length = ps.length → bindArgs (PySem.W.fnOf x qual (defArgs st) (defBody st) (defScope st) .none kV doc pm an cdv ct) ⟨us, []⟩ = pure (ps.zip us))
    (len : ∀ vs H Q E, sp vs H Q E → vs.length = ps.length)
    (hbody : ∀ (f : Addr) (cdv : Value) (A : Around) (outer : List Env) (s : Shared) (H : Hp) (vs : List V) (Q : VK) (E : XK), Room k (A.deeper (envOfC qual (defScope st) s.heap.objs.size f cdv)) → sp vs H Q E →
      ∃ t, PSs (cxOf CX0 P w K mg base N qual (defScope st) f cdv A outer s H E).nox (defBody st) t ∧ t { nx := fun _ H' => Q .non H', rt := Q } (start N vs) H) : Has P w K mg base x (k + 1) ps sp := by
  obtain ⟨f, fd, hm, F⟩ := F.ex
  exact ⟨f, fd, hm, F.kp, F.binds hb, F.ok S len (hbody f)⟩
theorem Has.mono {x : Str} {j k : Nat} {ps : List Str} {sp : Sp} (h : Has P w K mg base x j ps sp) (hk : j ≤ k) : Has P w K mg base x k ps sp := by
  obtain ⟨f, fd, a, b, c, d⟩ := h.ex
  exact ⟨f, fd, a, b, c, d.mono hk⟩
theorem Has.imp {x : Str} {k : Nat} {ps : List Str} {sp sp' : Sp} (h : Has P w K mg base x k ps sp) (i : ∀ vs H Q E, sp' vs H Q E → sp vs H Q E) : Has P w K mg base x k ps sp' := by
  obtain ⟨f, fd, a, b, c, d⟩ := h.ex
  exact ⟨f, fd, a, b, c, d.imp i⟩
end
section
variable {X : Cx} {x : Str} {k : Nat} {ps : List Str} {sp : Sp} {p pos : Pos} {e : Expr} {es : List Expr} {t : TA}
/-- f(e, ..) -/
theorem pe_has (h : Has X.prog X.w X.K X.mg X.base x k ps sp) (hr : Room k X.A) (ha : PA X (e :: es) t) (hg : Gl X x := by rfl) (hdb : (x == ("__debug__" : Str)) = false := by decide)
    (he : starEach (e :: es) X.env = (false, eval e X.env) :: starEach es X.env := by rfl) (hpl : (backTo pos (starEach es X.env)).any (·.1) = false := by rfl) :
    PE X (.Call (.Name x p) (e :: es) [] pos) (tCall sp [] E0 t) := by
  obtain ⟨f, fd, hm, hk, hb, F⟩ := h.ex
  exact pe_call F hr hg hm hk hb .nil pass0 ha hdb he hpl
end
/-! ### a class's def -/
structure MethAt (K : PySem.W.Frag) (C : Addr) (m qual : Str) (st : Stmt) : Prop where
  ex : ∃ (f : Addr) (fd : FuncData), Meth K C m f ∧ Fun K m qual st f fd
structure HasM (P : Program) (w : World) (K : PySem.W.Frag) (mg : Str → Option Value) (base : Heap) (C : Addr) (m : Str) (k : Nat) (ps : List Str) (sp : Sp) : Prop where
  ex : ∃ (f : Addr) (fd : FuncData), Meth K C m f ∧ Binds K fd ps [] ∧ FnOk P w K mg base CX0 k f fd ps sp
structure PropAt (K : PySem.W.Frag) (C : Addr) (m qual : Str) (st : Stmt) : Prop where
  ex : ∃ (p g : Addr) (fd : FuncData), PropOf K C m p g ∧ Fun K m qual st g fd
structure HasP (P : Program) (w : World) (K : PySem.W.Frag) (mg : Str → Option Value) (base : Heap) (C : Addr) (m : Str) (k : Nat) (sp : Sp) : Prop where
  ex : ∃ (p g : Addr) (fd : FuncData), PropOf K C m p g ∧ Binds K fd ["self"] [] ∧ FnOk P w K mg base CX0 k g fd ["self"] sp
section
variable {P : Program} {w : World} {K : PySem.W.Frag} {mg : Str → Option Value} {base : Heap} {C : Addr}
theorem hasM_of {m qual : Str} {st : Stmt} {N ps : List Str} {k : Nat} {sp : Sp} (F : MethAt K C m qual st) (S : FnScope N ps (defScope st))
    (hb : ∀ (kV doc pm : Value) (an : Option Addr) (cdv ct : Value) (us : List Value), us.length = ps.length → bindArgs (PySem.W.fnOf m qual (defArgs st) (defBody st) (defScope st) .none kV doc pm an cdv ct) ⟨us, []⟩ = pure (ps.zip us))
    (len : ∀ vs H Q E, sp vs H Q E → vs.length = ps.length)
    (hbody : ∀ (f : Addr) (cdv : Value) (A : Around) (outer : List Env) (s : Shared) (H : Hp) (vs : List V) (Q : VK) (E : XK), Room k (A.deeper (envOfC qual (defScope st) s.heap.objs.size f cdv)) → sp vs H Q E →
      ∃ t, PSs (cxOf CX0 P w K mg base N qual (defScope st) f cdv A outer s H E).nox (defBody st) t ∧ t { nx := fun _ H' => Q .non H', rt := Q } (start N vs) H) : HasM P w K mg base C m (k + 1) ps sp := by
  obtain ⟨f, fd, hm, F⟩ := F.ex
  exact ⟨f, fd, hm, F.binds hb, F.ok S len (hbody f)⟩
theorem hasP_of {m qual : Str} {st : Stmt} {N : List Str} {k : Nat} {sp : Sp} (F : PropAt K C m qual st) (S : FnScope N ["self"] (defScope st))
    (hb : ∀ (kV doc pm : Value) (an : Option Addr) (cdv ct : Value) (us : List Value), us.length = (["self"] : List Str).length → bindArgs (PySem.W.fnOf m qual (defArgs st) (defBody st) (defScope st) .none kV doc pm an cdv ct) ⟨us, []⟩ = pure ((["self"] : List Str).zip us))
    (len : ∀ vs H Q E, sp vs H Q E → vs.length = (["self"] : List Str).length)
    (hbody : ∀ (f : Addr) (cdv : Value) (A : Around) (outer : List Env) (s : Shared) (H : Hp) (vs : List V) (Q : VK) (E : XK), Room k (A.deeper (envOfC qual (defScope st) s.heap.objs.size f cdv)) → sp vs H Q E →
      ∃ t, PSs (cxOf CX0 P w K mg base N qual (defScope st) f cdv A outer s H E).nox (defBody st) t ∧ t { nx := fun _ H' => Q .non H', rt := Q } (start N vs) H) : HasP P w K mg base C m (k + 1) sp := by
  obtain ⟨p, g, fd, hm, F⟩ := F.ex
  exact ⟨p, g, fd, hm, F.binds hb, F.ok S len (hbody g)⟩
end
section
variable {X : Cx} {C : Addr} {m : Str} {k : Nat} {ps : List Str} {sp : Sp} {apos pos : Pos} {o e : Expr} {es : List Expr} {ta : TE} {t : TA}
theorem pe_hasP (h : HasP X.prog X.w X.K X.mg X.base C m k sp) (c : Cls X.K C) (hr : Room (k + 1) X.A) (ho : PE X o ta) (hab : attributeBase o m X.env (eval o X.env) = eval o X.env := by rfl) :
    PE X (.Attribute o m pos) (tProp C sp [] E0 ta) := by
  obtain ⟨p, g, fd, hp, hb, F⟩ := h.ex
  exact pe_prop ho c hp F hr hb .nil pass0 hab
end
end L2
namespace L2
open PySem PySem.Spec PyProof.Rows
/-! ### an own class: what isinstance, ==, the arithmetic signs ask -/
structure OwnC (K : PySem.W.Frag) (C : Addr) : Prop where
  cl : Cls K C
  ca : PySem.W.findIn K (.ref C) "__class__" = some (some (.builtin "object.__class__"))
  cn : PySem.W.specialIn K (.builtin "object.__class__") "__get__" = some (some (.builtin "getset_descriptor.__get__"))
  ct : PySem.W.takesIn K (.builtin "object.__class__") = some true
  mo : PySem.W.mroIn K C (.type "object") = some true
  ic : PySem.W.isClsIn K C = true
  tc : PySem.W.typeIn K (.ref C) = some (.type "type")
theorem OwnC.ty {K : PySem.W.Frag} {C : Addr} (o : OwnC K C) {H : Hp} {a dx : Addr} {fs : List (Str × V)} (e : H a = some (.ins C dx fs)) : TyX K H (.ref a) (.ref C) := .base (.ins e o.cl o.ca o.cn o.ct o.mo)
theorem kit_self {K : PySem.W.Frag} {t : Value} : PySem.W.kitOne K t t = some true := by
  unfold PySem.W.kitOne
  rw [if_pos (by simp)]
theorem OwnC.kit {K : PySem.W.Frag} {C : Addr} (o : OwnC K C) {T : String} {b : Bool} (h : PySem.W.subIn K (.type T) (.ref C) = some b) : PySem.W.kitOne K (.type T) (.ref C) = some b := by
  unfold PySem.W.kitOne PySem.W.kitCls
  have e : (Value.type T == Value.ref C) = false := Bool.eq_false_iff.mpr fun q => by cases beq_iff_eq.mp q
  have h1 : (PySem.W.clsIn K C).isSome = true := o.ic
  rw [if_neg (by rw [e]; decide)]
  show (if ((PySem.W.clsIn K C).isSome && PySem.W.typeIn K (.ref C) == some (.type "type")) = true then _ else _) = _
  rw [if_pos (by rw [h1, o.tc]; simp)]
  exact h
theorem notFirst_self {K : PySem.W.Frag} {C : Addr} : PySem.W.notFirst K C (.ref C) = true := by
  unfold PySem.W.notFirst
  simp
theorem notFirst_ty {K : PySem.W.Frag} {C : Addr} {T : String} (h : PySem.W.subIn K (.type T) (.ref C) = some false) : PySem.W.notFirst K C (.type T) = true := by
  unfold PySem.W.notFirst
  rw [h]
  simp
/-! ### a def with defaults -/
structure HasK (P : Program) (w : World) (K : PySem.W.Frag) (mg : Str → Option Value) (base : Heap) (x : Str) (C : Addr) (k : Nat) (ps : List Str) (sp : Sp) (dvs : List V) : Prop where
  ex : ∃ (f : Addr) (fd : FuncData) (ds : List Value), mg x = some (.ref C) ∧ Mk K C f ∧ Binds K fd ps ds ∧ Vals dvs ds ∧ FnOk P w K mg base CX0 k f fd ps sp
/-- a new instance: what __init__ promises of it, told of the call -/
def tNew (R : List V → Hp → VK → Prop) (t : TA) : TE := fun σ H Q => t σ H fun vs H1 => R vs H1 Q
section
variable {X : Cx} {x : Str} {C : Addr} {k : Nat} {ps : List Str} {sp : Sp} {dvs : List V} {p pos : Pos} {e : Expr} {es : List Expr} {t : TA}
theorem PE.imp {e : Expr} {t t' : TE} (h : PE X e t) (i : ∀ σ H Q, t' σ H Q → t σ H Q) : PE X e t' := ⟨fun pins s σ H Q I q => h.run pins s σ H Q I (i σ H Q q)⟩
theorem pe_hasK (h : HasK X.prog X.w X.K X.mg X.base x C k ps sp dvs) (hr : Room (k + 1) X.A) (ha : PA X (e :: es) t) (hg : Gl X x := by rfl) (hdb : (x == ("__debug__" : Str)) = false := by decide)
    (he : starEach (e :: es) X.env = (false, eval e X.env) :: starEach es X.env := by rfl) (hpl : (backTo pos (starEach es X.env)).any (·.1) = false := by rfl) :
    PE X (.Call (.Name x p) (e :: es) [] pos) (tMake C sp dvs E0 t) := by
  obtain ⟨f, fd, ds, hm, M, hb, hd, F⟩ := h.ex
  exact pe_make M F hr hg hm hb hd pass0 ha hdb he hpl
theorem pe_hasK0 (h : HasK X.prog X.w X.K X.mg X.base x C k ps sp dvs) (hr : Room (k + 1) X.A) (hg : Gl X x := by rfl) (hdb : (x == ("__debug__" : Str)) = false := by decide) :
    PE X (.Call (.Name x p) [] [] pos) (tMake C sp dvs E0 tNil) := by
  obtain ⟨f, fd, ds, hm, M, hb, hd, F⟩ := h.ex
  exact pe_make0 M F hr hg hm hb hd pass0 hdb
end
end L2
namespace L2
open PySem PySem.Spec PyProof.Rows
theorem lk_hd {f : Str} {v : V} {r : List (Str × V)} : ((f, v) :: r).lookup f = some v := by simp [List.lookup]
theorem lk_tl {f g : Str} {v : V} {r : List (Str × V)} {o : Option V} (h : ¬ f = g) (k : r.lookup f = o) : ((g, v) :: r).lookup f = o := by
  have e : (f == g) = false := by simpa using h
  simp [List.lookup, e, k]
theorem putF_new {f : Str} {v : V} : ∀ {r : List (Str × V)}, (∀ q ∈ r, ¬ q.1 = f) → putF f v r = r ++ [(f, v)]
  | [], _ => rfl
  | (g, x) :: r, h => by
    show (if g = f then (g, v) :: r else (g, x) :: putF f v r) = _
    rw [if_neg (h (g, x) List.mem_cons_self), putF_new fun q hq => h q (List.mem_cons_of_mem _ hq)]
    rfl
/-- a class's def with defaults, made by its name -/
structure InitAt (K : PySem.W.Frag) (mg : Str → Option Value) (x : Str) (C : Addr) (qual : Str) (st : Stmt) (dvs : List V) (kws : List (Str × V)) : Prop where
  ex : ∃ (f : Addr) (fd : FuncData), mg x = some (.ref C) ∧ Mk K C f ∧ FunD K "__init__" qual (defArgs st) (defBody st) (defScope st) dvs kws f fd
/-- the same as a method -/
structure MethD (K : PySem.W.Frag) (C : Addr) (m qual : Str) (st : Stmt) (dvs : List V) (kws : List (Str × V)) : Prop where
  ex : ∃ (f : Addr) (fd : FuncData), Meth K C m f ∧ FunD K m qual (defArgs st) (defBody st) (defScope st) dvs kws f fd
structure HasD (P : Program) (w : World) (K : PySem.W.Frag) (mg : Str → Option Value) (base : Heap) (C : Addr) (m : Str) (k : Nat) (ps : List Str) (sp : Sp) (dvs : List V) : Prop where
  ex : ∃ (f : Addr) (fd : FuncData) (ds : List Value), Meth K C m f ∧ Binds K fd ps ds ∧ Vals dvs ds ∧ FnOk P w K mg base CX0 k f fd ps sp
section
variable {X : Cx} {C : Addr} {m : Str} {k : Nat} {ps : List Str} {sp : Sp} {dvs : List V} {apos pos : Pos} {o e : Expr} {es : List Expr} {ta : TE} {t : TA} {pl : Sem Bool}
theorem pe_hasD (h : HasD X.prog X.w X.K X.mg X.base C m k ps sp dvs) (c : Cls X.K C) (hr : Room k X.A) (ho : PE X o ta) (ha : PA X (e :: es) t)
    (hst : starEach (e :: es) X.env = (false, eval e X.env) :: starEach es X.env := by rfl) (hpl : (backTo pos (starEach es X.env)).any (·.1) = false := by rfl)
    (ht : eval (.Call (.Attribute o m apos) (e :: es) [] pos) X.env = (do
      let ov ← eval o X.env
      standAt apos.atName
      let (f, first) ← holding [ov] (getMethod ov m pl)
      callWith pos f first (backTo pos (starEach (e :: es) X.env)) (backToKw pos (keywordEach [] X.env))) := by rfl) :
    PE X (.Call (.Attribute o m apos) (e :: es) [] pos) (tMeth C m sp dvs E0 ta t) := by
  obtain ⟨f, fd, ds, hm, hb, hd, F⟩ := h.ex
  exact pe_meth ho c hm F hr hb hd pass0 ha hst hpl ht
theorem pe_hasM (h : HasM X.prog X.w X.K X.mg X.base C m k ps sp) (c : Cls X.K C) (hr : Room k X.A) (ho : PE X o ta) (ha : PA X (e :: es) t)
    (hst : starEach (e :: es) X.env = (false, eval e X.env) :: starEach es X.env := by rfl) (hpl : (backTo pos (starEach es X.env)).any (·.1) = false := by rfl)
    (ht : eval (.Call (.Attribute o m apos) (e :: es) [] pos) X.env = (do
      let ov ← eval o X.env
      standAt apos.atName
      let (f, first) ← holding [ov] (getMethod ov m pl)
      callWith pos f first (backTo pos (starEach (e :: es) X.env)) (backToKw pos (keywordEach [] X.env))) := by rfl) :
    PE X (.Call (.Attribute o m apos) (e :: es) [] pos) (tMeth C m sp [] E0 ta t) := by
  obtain ⟨f, fd, hm, hb, F⟩ := h.ex
  exact pe_meth ho c hm F hr hb .nil pass0 ha hst hpl ht
end
end L2
namespace L2
open PySem PySem.Spec PyProof.Rows
theorem Same.st {K : PySem.W.Frag} {H H' : Hp} {a : Addr} {xs : List V} (e : Same H H') (h : SqT K H a xs) : SqT K H' a xs := by
  rcases h with (h | ⟨o, h⟩) | h
  · exact .inl (.inl (e _ _ h))
  · exact .inl (.inr ⟨o, e _ _ h⟩)
  · exact .inr h
end L2
namespace L2
open PySem PySem.Spec PyProof.Rows
theorem Same.mut {H H' : Hp} {p : Addr} {o : HO} (e : Same H H') (h : H p = none) : Same H (upd H' p o) := fun a u ha => by
  rw [upd_ne (ne_of_none ha h)]
  exact e a u ha
theorem walk_zipT {K : PySem.W.Frag} {a b : Addr} {xs ys : List V} {n : Nat} (hn : n = min xs.length ys.length) : Walk (RZ.ItzT K a b) n (fun H => SqT K H a xs ∧ SqT K H b ys) (YPair (fun i => xs[i]?) (fun i => ys[i]?)) := by
  subst hn
  refine ⟨fun i _ hi q => ?_, fun _ q => ⟨xs, ys, q.1, q.2, by omega⟩, fun i H v H' _ q y => ?_⟩
  · have h1 : i < xs.length := by omega
    have h2 : i < ys.length := by omega
    exact ⟨xs, ys, xs[i], ys[i], q.1, q.2, by simp [h1], by simp [h2]⟩
  · obtain ⟨T, x, z, h1, h2, h3, h4, h5⟩ := y
    exact ⟨T, x, z, h1, h2, h3, h4 xs q.1, h5 ys q.2⟩
/-- a comprehension without a test whose element leaves what was tracked: the new list of val 0, val 1, .. -/
theorem lc_map {J : It} {n : Nat} {G : Hp → Prop} {Y : Nat → Hp → V → Hp → Prop} (w : Walk J n G Y) {g : TG} {te : TE} {vs : List Nat} {σ : St} {H1 : Hp} {D : Addr} {Qd : Hp → Prop} (val : Nat → V) (nD : H1 D = none) (hn : n < 1000000)
    (hG : ∀ H, Same H1 H → G H)
    (hs : ∀ i x H H', i < n → Same H1 H → Y i H x H' → ∀ R : V → Hp → Prop, (∀ H4, Same H H4 → R (val i) H4) → g x (wipe σ vs) H' fun σ2 H2 => wipe σ2 vs = wipe σ vs ∧ te σ2 H2 R)
    (hd : ∀ H, Same H1 H → H D = some (.lst ((List.range n).map val)) → Qd H) :
    ∃ W : Nat → Nat → Hp → Prop, (∃ m, W 0 m (upd H1 D (.lst []))) ∧ ∀ i m H, W i m H →
      (J.stop i H ∧ Qd H) ∨ (J.go i H ∧ ∃ Nx : Hp → Prop, (∀ H', Nx H' → ∃ m', m' < m ∧ W (i + 1) m' H') ∧ ∀ x H', J.yld i H x H' → g x (wipe σ vs) H' fun σ2 H2 => wipe σ2 vs = wipe σ vs ∧ tYes σ2 H2 fun b H3 =>
        if b = true then te σ2 H3 fun y H4 => ∃ acc, H4 D = some (.lst acc) ∧ acc.length < sizeLine ∧ Nx (upd H4 D (.lst (acc ++ [y]))) else Nx H3) := by
  refine lc_it w (fun i H => Same H1 H ∧ H D = some (.lst ((List.range i).map val))) ⟨fun b o h => by rw [upd_ne (ne_of_none h nD)]; exact h, upd_same⟩ (fun i H _ p => hG H p.1) ?_ (fun H p => hd H p.1 p.2)
  rintro i x H H' hi ⟨p1, p2⟩ y
  have h := hs i x H H' hi p1 y (fun y' H4 => ∃ acc, H4 D = some (.lst acc) ∧ acc.length < sizeLine ∧ (Same H1 (upd H4 D (.lst (acc ++ [y']))) ∧ (upd H4 D (.lst (acc ++ [y']))) D = some (.lst ((List.range (i + 1)).map val)))) fun H4 s4 => by
    refine ⟨_, s4 _ _ p2, ?_, (p1.trans s4).mut nD, ?_⟩
    · rw [List.length_map, List.length_range]
      exact Nat.lt_of_lt_of_le (by omega : i < 1000000) (by decide)
    · rw [List.range_succ, List.map_append]
      exact upd_same
  exact h
end L2
namespace L2
open PySem PySem.Spec PyProof.Rows
/-! ### rules whose reading names the written part, for a comprehension's block -/
section
variable {X : Cx}
theorem pg_tupK (K : PySem.W.Frag) (n : Nat) (hK : X.K = K := by rfl) {es : List Expr} {k : Nat} {t : TGs} {pos : Pos} (hc : X.calm = true) (h : PGs X es t)
    (hn : (assignEach es X.env).length = n := by rfl) (hst : (assignEach es X.env).findIdx? (·.1) = none := by rfl) : PG X (.Tuple es k pos) (gTup K n t) := by
  subst hK
  exact pg_tup hc h hn hst
theorem ix_listK (K : PySem.W.Frag) (hK : X.K = K := by rfl) : IxR X (rIxL K) := by
  subst hK
  exact ix_list
theorem ix_tupK (K : PySem.W.Frag) (hK : X.K = K := by rfl) : IxR X (rIxT K) := by
  subst hK
  exact ix_tup
theorem pe_fldK (K : PySem.W.Frag) {e : Expr} {ta : TE} {f : Str} {pos : Pos} (he : PE X e ta) (hb : attributeBase e f X.env (eval e X.env) = eval e X.env) (hK : X.K = K := by rfl) : PE X (.Attribute e f pos) (tFld K ta f) := by
  subst hK
  exact pe_fld he hb
end
end L2
namespace L2
open PySem PySem.Spec PyProof.Rows
/-! ### the end: what the top has written, read off the written part -/
section
variable {K : PySem.W.Frag} {mg : Str → Option Value} {h : Heap}
theorem funAt_mk {x qual : Str} {st : Stmt} {f : Addr} {oc : Value} {od an : Option Addr} {osl : Array (Option Value)} {kV doc pm cdv ct : Value} (X : K.In h) (G : h.Ns mainGlobals mg) (a : PySem.W.nsIn K mainGlobals x = some (some (.ref f)))
    (l : K.lookup f = some ⟨oc, od, .func (PySem.W.fnOf x qual (defArgs st) (defBody st) (defScope st) .none kV doc pm an cdv ct), osl⟩) (c : PySem.W.codeIn K cdv qual = true) (k : PySem.W.keepIn K (.ref f) = true) : FunAt K mg x qual st :=
  ⟨f, _, PySem.W.mg_of X G a, fun_mk l c k⟩
theorem methAt_mk {C : Addr} {m qual : Str} {st : Stmt} {f : Addr} {oc : Value} {od an : Option Addr} {osl : Array (Option Value)} {kV doc pm cdv ct : Value} (a : PySem.W.findIn K (.ref C) m = some (some (.ref f))) (i : PySem.W.isFn K (.ref f) = true)
    (l : K.lookup f = some ⟨oc, od, .func (PySem.W.fnOf m qual (defArgs st) (defBody st) (defScope st) .none kV doc pm an cdv ct), osl⟩) (c : PySem.W.codeIn K cdv qual = true) (k : PySem.W.keepIn K (.ref f) = true) : MethAt K C m qual st :=
  ⟨f, _, ⟨a, i, k⟩, fun_mk l c k⟩
theorem propAt_mk {C : Addr} {m qual : Str} {st : Stmt} {p g : Addr} {rest : List Value} {oc : Value} {od an : Option Addr} {osl : Array (Option Value)} {kV doc pm cdv ct : Value} (a : PySem.W.findIn K (.ref C) m = some (some (.ref p)))
    (b : PySem.W.specialIn K (.ref p) "__get__" = some (some (.builtin "property.__get__"))) (t : PySem.W.takesIn K (.ref p) = some true) (r : PySem.W.recIn K p "property" = some (.ref g :: rest))
    (l : K.lookup g = some ⟨oc, od, .func (PySem.W.fnOf m qual (defArgs st) (defBody st) (defScope st) .none kV doc pm an cdv ct), osl⟩) (c : PySem.W.codeIn K cdv qual = true) (k : PySem.W.keepIn K (.ref g) = true) : PropAt K C m qual st :=
  ⟨p, g, _, ⟨a, b, t, rest, r⟩, fun_mk l c k⟩
theorem funD_mk {x qual : Str} {st : Stmt} {f T : Addr} {dvs : List V} {oc tc : Value} {od an td : Option Addr} {osl tsl : Array (Option Value)} {kV doc pm cdv ct : Value} {its : List Value} {n : Nat}
    (l : K.lookup f = some ⟨oc, od, .func (PySem.W.fnOf x qual (defArgs st) (defBody st) (defScope st) (.ref T) kV doc pm an cdv ct), osl⟩) (c : PySem.W.codeIn K cdv qual = true) (k : PySem.W.keepIn K (.ref f) = true)
    (t : K.lookup T = some ⟨tc, td, .seq its.toArray n, tsl⟩) (v : Vals dvs its) (hd : dvs ≠ []) : FunD K x qual (defArgs st) (defBody st) (defScope st) dvs [] f (PySem.W.fnOf x qual (defArgs st) (defBody st) (defScope st) (.ref T) kV doc pm an cdv ct) :=
  ⟨⟨oc, od, .ref T, kV, doc, pm, an, cdv, ct, osl, rfl, l, c, .inr ⟨hd, T, _, its, n, rfl, t, rfl, v⟩, .inl rfl⟩, k⟩
theorem initAt_mk {x : Str} {C f : Addr} {qual : Str} {st : Stmt} {dvs : List V} {kws : List (Str × V)} {fd : FuncData} (X : K.In h) (G : h.Ns mainGlobals mg) (g : PySem.W.nsIn K mainGlobals x = some (some (.ref C)))
    (m : PySem.W.makesIn K C = true) (i : PySem.W.findIn K (.ref C) "__init__" = some (some (.ref f))) (n : PySem.W.isFn K (.ref f) = true) (k : PySem.W.keepIn K (.ref C) = true)
    (F : FunD K "__init__" qual (defArgs st) (defBody st) (defScope st) dvs kws f fd) : InitAt K mg x C qual st dvs kws := ⟨f, fd, PySem.W.mg_of X G g, ⟨m, i, n, k⟩, F⟩
theorem methD_mk {C f : Addr} {m qual : Str} {st : Stmt} {dvs : List V} {kws : List (Str × V)} {fd : FuncData} (a : PySem.W.findIn K (.ref C) m = some (some (.ref f))) (i : PySem.W.isFn K (.ref f) = true) (k : PySem.W.keepIn K (.ref f) = true)
    (F : FunD K m qual (defArgs st) (defBody st) (defScope st) dvs kws f fd) : MethD K C m qual st dvs kws := ⟨f, fd, ⟨a, i, k⟩, F⟩
theorem ownC_mk {C : Addr} (pg : PySem.W.plainGet K C Str.empty = true) (hd : PySem.W.hasDictIn K C = true) (po : PySem.W.plainOver K C = true) (sa : PySem.W.findIn K (.ref C) "__setattr__" = some (some (.builtin "object.__setattr__")))
    (ca : PySem.W.findIn K (.ref C) "__class__" = some (some (.builtin "object.__class__"))) (cn : PySem.W.specialIn K (.builtin "object.__class__") "__get__" = some (some (.builtin "getset_descriptor.__get__")))
    (ct : PySem.W.takesIn K (.builtin "object.__class__") = some true) (mo : PySem.W.mroIn K C (.type "object") = some true) (ic : PySem.W.isClsIn K C = true) (tc : PySem.W.typeIn K (.ref C) = some (.type "type")) : OwnC K C :=
  ⟨⟨pg, hd, po, sa⟩, ca, cn, ct, mo, ic, tc⟩
end
end L2

set_option maxHeartbeats 4000000
/-! defs that are called where no container is being told (no guard stands): such a def may ask repr of lists and tuples -/
namespace L2
open PySem PySem.Spec PyProof.Rows
def Calm (A : Around) : Prop := A.guards = some []
structure FnG (P : Program) (w : World) (K : PySem.W.Frag) (mg : Str → Option Value) (base : Heap) (CX : CXT) (k : Nat)
    (f : Addr) (fd : FuncData) (ps : List Str) (sp : Sp) : Prop where
  len : ∀ vs H Q E, sp vs H Q E → vs.length = ps.length
  run : ∀ (A : Around) (outer : List Env) (s : Shared) (H : Hp) (args : Args) (us : List Value) (vs : List V) (Q : VK) (E : XK),
    Room k A → Calm A → Env0 P w K mg base A outer s H → BindsTo s fd args (ps.zip us) → Vals vs us → sp vs H Q E →
    codeAny (model P w) A (.call (.ref f) args) (CR CX outer P w H s Q E) s
section
variable {P : Program} {w : World} {K : PySem.W.Frag} {mg : Str → Option Value} {base : Heap} {CX : CXT} {k : Nat}
variable {f : Addr} {fd : FuncData} {ps : List Str} {sp sp' : Sp}
theorem FnG.of (F : FnOk P w K mg base CX k f fd ps sp) : FnG P w K mg base CX k f fd ps sp :=
  ⟨F.len, fun A o s H args us vs Q E hr _ => F.run A o s H args us vs Q E hr⟩
theorem FnG.mono {j : Nat} (F : FnG P w K mg base CX j f fd ps sp) (h : j ≤ k) : FnG P w K mg base CX k f fd ps sp :=
  ⟨F.len, fun A o s H args us vs Q E hr => F.run A o s H args us vs Q E (hr.mono h)⟩
/-- a def by its body, where no guard stands -/
theorem Fun.okG {x qual : Str} {st : Stmt} {N : List Str} (F : Fun K x qual st f fd) (S : FnScope N ps (defScope st)) (len : ∀ vs H Q E, sp vs H Q E → vs.length = ps.length)
    (body : ∀ (cdv : Value) (A : Around) (outer : List Env) (s : Shared) (H : Hp) (vs : List V) (Q : VK) (E : XK),
      Calm (A.deeper (envOfC qual (defScope st) s.heap.objs.size f cdv)) → Room k (A.deeper (envOfC qual (defScope st) s.heap.objs.size f cdv)) → sp vs H Q E →
      ∃ t, PSs (cxOf CX0 P w K mg base N qual (defScope st) f cdv A outer s H E).nox (defBody st) t ∧ t { nx := fun _ H' => Q .non H', rt := Q } (start N vs) H) :
    FnG P w K mg base CX0 (k + 1) f fd ps sp := by
  obtain ⟨oc, od, kV, doc, pm, an, cdv, ct, osl, rfl, lk, hcd⟩ := F.ex
  refine ⟨len, fun A outer s H args us vs Q E hr hG e0 hb r hsp => ?_⟩
  have KX : K.In s.heap := e0.mod.kin.keeps fun b o e => (e0.bs b o e).1
  have nl : s.heap.NoLimit := e0.mod.nolimit.keeps fun b o e => (e0.bs b o e).1
  have kinds : ∀ y ∈ ps.zip us, (defScope st).names.lookup y.1 = some .local ∨ ((defScope st).names.lookup y.1 = some .cell ∧ ((cellsFrom (s.heap.objs.size + 1) (defScope st).names []).lookup y.1).isSome = true) := by
    rintro ⟨n, v⟩ hy
    exact (S.par n (List.of_mem_zip hy).1).imp id fun q => ⟨q, PySem.W.cellsFrom_some _ _ _ (.inl q)⟩
  refine codeAny_call_function hr.depth (KX _ _ lk) rfl S.co S.gen rfl (PySem.W.codeRec_of KX hcd) (hb _ _ _ _ (wpAny_newFunctionEnv_cells S.kind kinds fun env he s1 x => ?_))
  cases he
  obtain ⟨t, ht, hq⟩ := body cdv A outer s H vs Q E hG (hr.deeper _) hsp
  have I := inv_start (CX := CX0) (P := P) (w := w) (K := K) (mg := mg) (base := base) (qual := qual) (cd := cdv) (E := E) S hr.hd e0 (len _ _ _ _ hsp) r x
  refine ⟨nl.keeps x.toInCall.keep, codeAny_func (wpAny_mono (ht.nox.run [] s1 (start N vs) H _ I hq) (fun fl s' hs => ?_) fun _ _ z => z)⟩
  have fin : ∀ {σ' : St} {H' : Hp} {v : V} {u : Value}, Inv (cxOf CX0 P w K mg base N qual (defScope st) f cdv A outer s H E) [] σ' H' s' → RelV v u → Q v H' → CE outer P w H s Q u s' :=
    fun J rv q => ⟨_, _, J.os, J.bare, J.base, J.hok, rv, q⟩
  match fl, hs with
  | .ret u, ⟨v, σ', H', J, rv, q⟩ => exact fin J rv q
  | .next, ⟨σ', H', J, q⟩ => exact fin (v := V.non) (u := Value.none) J rfl q
  | .brk, ⟨_, _, _, q⟩ => exact q.elim
  | .cont, ⟨_, _, _, q⟩ => exact q.elim
end
/-- a def of the module under its name, its promise where no guard stands -/
structure HasG (P : Program) (w : World) (K : PySem.W.Frag) (mg : Str → Option Value) (base : Heap) (x : Str) (k : Nat) (ps : List Str) (sp : Sp) : Prop where
  ex : ∃ (f : Addr) (fd : FuncData), mg x = some (.ref f) ∧ PySem.W.keepIn K (.ref f) = true ∧ Binds K fd ps [] ∧ FnG P w K mg base CX0 k f fd ps sp
section
variable {P : Program} {w : World} {K : PySem.W.Frag} {mg : Str → Option Value} {base : Heap} {x : Str} {k : Nat} {ps : List Str} {sp : Sp}
theorem HasG.of (h : Has P w K mg base x k ps sp) : HasG P w K mg base x k ps sp := let ⟨f, fd, a, b, c, d⟩ := h.ex; ⟨f, fd, a, b, c, .of d⟩
theorem hasG_of {qual : Str} {st : Stmt} {N : List Str} (F : FunAt K mg x qual st) (S : FnScope N ps (defScope st))
    (hb : ∀ (kV doc pm : Value) (an : Option Addr) (cdv ct : Value) (us : List Value), us.length = ps.length → bindArgs (PySem.W.fnOf x qual (defArgs st) (defBody st) (defScope st) .none kV doc pm an cdv ct) ⟨us, []⟩ = pure (ps.zip us))
    (len : ∀ vs H Q E, sp vs H Q E → vs.length = ps.length)
    (body : ∀ (f : Addr) (cdv : Value) (A : Around) (outer : List Env) (s : Shared) (H : Hp) (vs : List V) (Q : VK) (E : XK),
      Calm (A.deeper (envOfC qual (defScope st) s.heap.objs.size f cdv)) → Room k (A.deeper (envOfC qual (defScope st) s.heap.objs.size f cdv)) → sp vs H Q E →
      ∃ t, PSs (cxOf CX0 P w K mg base N qual (defScope st) f cdv A outer s H E).nox (defBody st) t ∧ t { nx := fun _ H' => Q .non H', rt := Q } (start N vs) H) :
    HasG P w K mg base x (k + 1) ps sp := by
  obtain ⟨f, fd, hm, F⟩ := F.ex
  exact ⟨f, fd, hm, F.kp, F.binds hb, F.okG S len (body f)⟩
end
section
variable {X : Cx} {x : Str} {k n : Nat} {f : Addr} {fd : FuncData} {ps : List Str} {sp : Sp} {p pos : Pos} {e : Expr} {es : List Expr} {t : TA} {pins : List (Addr × Obj)} {σ : St} {H : Hp} {s : Shared} {Q : VK}
/-- the callee runs -/
theorem FnG.call {us : List Value} {ws : List V} {E : XK} {CX : CXT} (F : FnG X.prog X.w X.K X.mg X.base CX n f fd ps sp) (hb : Binds X.K fd ps []) (hr : Room n X.A) (hg : Calm X.A) (hx : Passes CX X E) (I : Inv X pins σ H s)
    (r : Vals ws us) (h : sp ws H Q E) : wpAny (model X.prog X.w) X.A (call (.ref f) us) (EP X pins σ Q) X.xe s := by
  have hl : (us ++ []).length = ps.length := by
    rw [List.append_nil, ← F.len _ _ _ _ h, r.length]
  have b := hb s us I.kIn hl
  rw [List.append_nil] at b
  refine wpAny_call (codeAny_mono (F.run X.A X.stack s H ⟨us, []⟩ us ws Q E hr hg I.env0 b r h) fun z s' hq => ?_)
  match z, hq with
  | .error e, hq => exact hx pins σ H s e s' I hq
  | .ok (.ret u), hq => exact I.after hq
/-- f(e, ..) -/
theorem pe_hasG (h : HasG X.prog X.w X.K X.mg X.base x k ps sp) (hr : Room k X.A) (hc : Calm X.A) (ha : PA X (e :: es) t) (hg : Gl X x := by rfl) (hdb : (x == ("__debug__" : Str)) = false := by decide)
    (he : starEach (e :: es) X.env = (false, eval e X.env) :: starEach es X.env := by rfl) (hpl : (backTo pos (starEach es X.env)).any (·.1) = false := by rfl) :
    PE X (.Call (.Name x p) (e :: es) [] pos) (tCall sp [] E0 t) := by
  obtain ⟨f, fd, hm, hk, hb, F⟩ := h.ex
  refine ⟨fun pins s σ H Q I q => wpAny_Call_Name_kw (ld_glob I hg hm ?_ hdb)⟩
  refine PySem.W.callWith_K I.ok.mod.kin hk (thn (ha.run pos pins s σ H _ I q) fun us s1 z => ?_) he hpl
  obtain ⟨vs, H1, I1, r, q1⟩ := z
  exact ⟨I1.kIn, F.call hb hr hc pass0 I1 r (by rw [List.append_nil] at q1; exact q1)⟩
end
end L2

set_option maxHeartbeats 4000000
namespace L2
open PySem PySem.Spec PyProof.Rows
/-- the script, told to the abstract heap: by itself, or as one of the module's own objects -/
theorem script_told {P : Program} {w : World} {K : PySem.W.Frag} {s : Shared} {a : Addr} {vs : List Value} {ns : List Int} (KX : K.In s.heap) (ha : s.heap.get? a = some { cls := .type "list", data := .seq vs.toArray })
    (hi : IntsAre vs ns) (hl : ns.length ≤ sizeLine) :
    ∃ H : Hp, Only H ∧ SqL K H a (ns.map V.int) ∧ HOk P w H s.heap ∧ (∀ b, H b ≠ none → b = a) ∧ (H a ≠ none → K.lookup a = none) := by
  have rv := vals_ints hi
  rcases hk : K.lookup a with _ | o
  · let o : Obj := { cls := .type "list", data := .seq vs.toArray }
    let H : Hp := fun b => if b = a then some (.frz o (.lst (ns.map V.int))) else none
    have at_ : H a = some (.frz o (.lst (ns.map V.int))) := if_pos rfl
    have off : ∀ b, b ≠ a → H b = none := fun b n => if_neg n
    refine ⟨H, fun b => ?_, .inl (.inr ⟨o, at_⟩), fun b u z => ?_, fun b z => ?_, fun _ => rfl⟩
    · rcases Nat.decEq b a with n | n
      · exact .inl (off b n)
      · exact .inr ⟨_, _, n ▸ at_⟩
    · rcases Nat.decEq b a with n | n
      · rw [off b n] at z; cases z
      · subst n
        rw [at_] at z
        cases z
        exact ⟨ha, by rw [List.length_map]; exact hl, vs, _, rv, ha⟩
    · rcases Nat.decEq b a with n | n
      · exact absurd (off b n) z
      · exact n
  · have e := KX a o hk
    rw [ha] at e
    cases e
    exact ⟨fun _ => none, fun _ => .inl rfl, .inr ⟨_, vs.toArray, _, hk, rfl, rfl, rfl, by rw [List.size_toArray, hi.length]; exact hl, by simpa using rv⟩,
      fun b u z => (nomatch (show (none : Option HO) = some u from z)), fun b z => absurd rfl z, fun z => absurd rfl z⟩
/-- the law's promise at the heap behind the top -/
theorem law_callG {P : Program} {w : World} {K : PySem.W.Frag} {mg mb : Str → Option Value} {k : Nat} {fa a : Addr} {fd : FuncData} {x : Str} {sp : Sp} {s : Shared} {vs : List Value} {ns : List Int}
    (KX : K.In s.heap) (hns : s.heap.Ns mainGlobals mg) (hb : s.heap.Ns builtinsNs mb) (hbb : ∀ y : Str, y ≠ "__name__" → mb y = bootBuiltins y) (nl : s.heap.NoLimit) (hg : s.gens = #[])
    (ha : s.heap.get? a = some { cls := .type "list", data := .seq vs.toArray }) (hi : IntsAre vs ns) (hl : ns.length ≤ sizeLine) (hr : Room k callerA)
    (F : ∀ base : Heap, K.In base → base.Ns mainGlobals mg → FnG P w K mg base CX0 k fa fd [x] sp) (bind : ∀ (s : Shared) (u : Value), BindsTo s fd ⟨[u], []⟩ [(x, u)])
    (hsp : ∀ H : Hp, Only H → SqL K H a (ns.map V.int) → sp [.ref a] H (fun v _ => v = .bl true) E0) :
    codeAny (model P w) callerA (.call (.ref fa) ⟨[.ref a], []⟩) (fun r s' => r = .ok (.ret (.bool true)) ∧ OldK s.heap s'.heap ∧ s'.os = s.os ∧ AllBare s'.gens) s := by
  obtain ⟨H, hO, hS, hok, hA, hK⟩ := script_told (P := P) (w := w) KX ha hi hl
  have low : ∀ {b : Addr} {o : Obj}, s.heap.get? b = some o → (b = a → H b = none) → (hidT s.heap H).get? b = some o := fun {b o} e n =>
    hidT_get e (Classical.byContradiction fun q => q (n (hA b q)))
  have dicts : ∀ {b : Addr} {m : Str → Option Value}, s.heap.Ns b m → (hidT s.heap H).Ns b m := fun {b m} n => by
    obtain ⟨o, es, ep, e, d, r⟩ := n
    refine ⟨o, es, ep, low e fun q => ?_, d, r⟩
    subst q
    rw [ha] at e
    cases e
    exact (nomatch (show Data.seq vs.toArray _ = Data.dict es ep from d))
  have hKb : K.In (hidT s.heap H) := fun b o e => low (KX b o e) fun q => by
    subst q
    exact Classical.byContradiction fun z => by rw [hK z] at e; cases e
  obtain ⟨mc, n1, n2⟩ := nl
  have e0 : Env0 P w K mg (hidT s.heap H) callerA [] s H :=
    ⟨rfl, ⟨hKb, dicts hns, ⟨mb, dicts hb, hbb⟩, ⟨mc, dicts n1, n2⟩⟩, fun b o e => of_hidT e, Nat.le_of_eq (hidT_size _ _), trivial, fun b z => (nomatch z), hok, .of_eq hg⟩
  refine codeAny_mono ((F _ hKb (dicts hns)).run callerA [] s H ⟨[.ref a], []⟩ [.ref a] [.ref a] _ _ hr rfl e0 (bind s (.ref a)) (.cons rfl .nil) (hsp H hO hS)) fun r s' h => ?_
  match r, h with
  | .ok (.ret u), ⟨v, H', os, bare, un, hok', rv, (q : v = .bl true)⟩ =>
    subst q
    cases (show u = Value.bool true from rv)
    refine ⟨rfl, OldK.of_keep fun b o e => ?_, os, bare⟩
    rcases hO b with z | ⟨ob, xs, z⟩
    · exact un.keep b o e z (fun m => nomatch m) (fun m => nomatch m)
    · have e1 := (hok b _ z).1
      rw [e] at e1
      cases e1
      exact (hok' b _ (un.frzs b o _ z)).1
/-- THE HEAD -/
theorem walk_ofG {l : PySem.W.OpenLaw} {n k : Nat} {q : Program} {loose : List Str} {XP : (Str → Option Value) → Heap → Prop} {YP : World → Heap → Prop} {d : DefRec} {K : Params → PySem.W.Frag} {sp : World → Sp} {x : Str}
    (hn : l.most = some n) (hn2 : n ≤ sizeLine) (hdf : d.params.defaults = []) (hr : Room k callerA) (hY : ∀ (w : World) (h : Heap), YP w h → (K w.params).In h)
    (F : ∀ (w : World) (mg : Str → Option Value) (fa : Addr) (h : Heap), (K w.params).In h → h.Ns mainGlobals mg → mg d.name = some (.ref fa) →
      ∃ fd : FuncData, (∀ (s : Shared) (u : Value), BindsTo s fd ⟨[u], []⟩ [(x, u)]) ∧
        ∀ base : Heap, (K w.params).In base → base.Ns mainGlobals mg → FnG l.prog w (K w.params) mg base CX0 k fa fd [x] (sp w))
    (hsp : ∀ (w : World) (H : Hp) (a : Addr) (ns : List Int), ns.length ≤ n → Only H → SqL (K w.params) H a (ns.map V.int) → sp w [.ref a] H (fun v _ => v = .bl true) E0) :
    PySem.W.WalkO q loose XP YP l.row.toRowW d [] (fun f vs => PySem.call f vs) := by
  refine Att.attach_call hn hdf fun w s₀ s mg mb fa o pm cd doc a vs ns G Y ho hd hcd hmg hobj hints hlen hg => ?_
  obtain ⟨fd, hb, hF⟩ := F w mg fa _ (hY w _ Y) G.T.g hmg
  exact law_callG (hY w _ Y) G.T.g G.T.b G.T.builtins G.T.nolimit hg hobj hints (Nat.le_trans hlen hn2) hr hF hb fun H h1 h2 => hsp w H a ns hlen h1 h2
end L2

set_option maxHeartbeats 4000000
namespace L2
open PySem PySem.Spec PyProof.Rows
section
variable {X : Cx}
/-- d.update(e), two dicts of written keys -/
def rUpdate : V → List V → Hp → VK → Prop := fun x vs H Q => ∃ (d o : Addr) (ks ls : List (Key × V)), x = .ref d ∧ vs = [.ref o] ∧ d ≠ o ∧ H d = some (.dK ks) ∧ H o = some (.dK ls) ∧
  ks.length + ls.length ≤ sizeLine ∧ Q .non (upd H d (.dK (mergeK ks ls)))
theorem mt_update : MtR X "dict.update" rUpdate := by
  intro pins s σ H x vs v us Q I rx rv h
  obtain ⟨d, o, ks, ls, rfl, rfl, ne, ed, eo, z, q⟩ := h
  cases (show v = Value.ref d from rx)
  obtain ⟨u, rfl, ru⟩ := rv.one
  cases (show u = Value.ref o from ru)
  obtain ⟨z1, nd, xs, rel, dd⟩ := dk_of I.hok ed
  obtain ⟨z2, no, ys, rel2, dd2⟩ := dk_of I.hok eo
  have le : (mergeK ks ls).length ≤ sizeLine := Nat.le_trans (length_mergeK ls ks) z
  refine call_meetsIn PySem.F.slot_dict_update dd.typeIs PySem.F.entry_dict_update (PySem.F.args_dict_update_2 _ _) (meets_dict_update (mixKind X.prog X.w) d o ne no)
    ⟨xs, ys, dd, dd2, by rw [← rel.length, ← rel2.length]; exact z, fun h' dd' _ hs => ?_⟩
  obtain ⟨_, _, _, hq, _⟩ := id dd'
  exact ⟨.non, _, d_write (t' := s.toks) I (by rw [ed]; exact True.intro) hs ⟨_, hq⟩ (dk_new le nd (KV.merge rel2 rel) dd'), rfl, q⟩
/-- d == {} -/
def rEqNone : R2 := fun x y H Q => ∃ (a b : Addr) (ks : List (Key × V)), x = .ref a ∧ y = .ref b ∧ H a = some (.dK ks) ∧ H b = some (.dK []) ∧ Q (.bl ks.isEmpty) H
theorem op_eqNone (hu : X.A.units < cLine) : OpR X (compareOp .Eq) rEqNone := by
  intro pins s σ H x y v u Q I rx ry h
  obtain ⟨a, b, ks, rfl, rfl, ea, eb, q⟩ := h
  cases (show v = Value.ref a from rx)
  cases (show u = Value.ref b from ry)
  obtain ⟨_, ya, va, ra, da⟩ := dk_of I.hok ea
  obtain ⟨_, yb, vb, rb, db⟩ := dk_of I.hok eb
  cases rb
  refine PySem.W.keq_eq (r := true) ya yb da db hu (fun l => ?_) (fin_bl I q ?_)
  · cases va with
    | nil => exact .nil
    | cons => cases l
  · cases ra <;> rfl
end
end L2

set_option maxHeartbeats 4000000
/-! repr of data: none, bools, ints, texts, lists, tuples at any depth, where no guard stands -/
namespace L2
open PySem PySem.Spec PyProof.Rows
section
variable {K : PySem.W.Frag} {H : Hp}
mutual
theorem Dp.noDict : ∀ (d : PyData) (v : V), Dp K H v d → d.hasDict = false
  | .none, _, _ => rfl
  | .bool _, _, _ => rfl
  | .int _, _, _ => rfl
  | .str _, _, _ => rfl
  | .list ds, _, h => by
    cases h with
    | lst _ ha => simpa [PyData.hasDict] using Dp.noDictAll ds _ ha
  | .tuple ds, _, h => by
    cases h with
    | tup _ ha => simpa [PyData.hasDict] using Dp.noDictAll ds _ ha
  | .dict _, _, h => by cases h
theorem Dp.noDictAll : ∀ (ds : List PyData) (vs : List V), DpAll K H vs ds → PyData.hasDictAll ds = false
  | [], _, _ => rfl
  | d :: ds, _, h => by
    cases h with
    | cons h1 h2 => simp [PyData.hasDictAll, Dp.noDict d _ h1, Dp.noDictAll ds _ h2]
end
end
section
variable {X : Cx}
def rRepr (K : PySem.W.Frag) (B : Nat) : List V → Hp → VK → Prop := fun xs H Q => ∃ v d, xs = [v] ∧ Dp K H v d ∧ d.showable = true ∧ d.depth ≤ B ∧ d.shown.length ≤ sizeLine ∧ Q (.str d.shown) H
theorem call_reprD {B : Nat} (hc : Calm X.A) (hu : X.A.units + (B + 1) < cLine) : CallR X (.builtin "repr") (rRepr X.K B) := by
  intro pins s σ H xs us Q I r h
  obtain ⟨v, d, rfl, hd, hs, hB, hz, q⟩ := h
  obtain ⟨u, rfl, ru⟩ := r.one
  obtain ⟨as, rd⟩ := Dp.reads I d v u hd ru
  have nd := Dp.noDict d v hd
  match d, hd, ru, rd, hs, hB, hz, q, nd with
  | .none, .non, ru, _, _, _, _, q, _ =>
    cases ru
    exact PySem.P.repr_of_none ⟨.str _, H, I.tok _, ⟨_, rfl⟩, q⟩
  | .bool b, .bl _, ru, _, _, _, _, q, _ =>
    cases ru
    exact PySem.P.repr_of_bool ⟨.str _, H, I.tok _, ⟨_, rfl⟩, q⟩
  | .int i, .int _, ru, _, hs, _, _, q, _ =>
    obtain ⟨t, rfl⟩ := ru
    exact PySem.P.repr_of_int (by simpa [PyData.showable] using hs) ⟨.str _, H, I.tok _, ⟨_, rfl⟩, q⟩
  | .str x, .str _, ru, _, _, _, hz, q, _ =>
    obtain ⟨t, rfl⟩ := ru
    exact PySem.P.repr_of_str ⟨.str _, H, I.tok _, ⟨_, rfl⟩, q⟩ hz
  | .list ds, .lst (a := a) _ _, ru, rd, hs, hB, hz, q, nd =>
    cases ru
    exact repr_of_reads' rd hs (PyData.noDict_hsm nd) hc (by omega) (fun _ _ e => e) (fun h' t tk hk => ⟨.str _, H, I.kept hk, ⟨_, rfl⟩, q⟩) hz
  | .tuple ds, .tup (a := a) _ _, ru, rd, hs, hB, hz, q, nd =>
    cases ru
    exact repr_of_reads' rd hs (PyData.noDict_hsm nd) hc (by omega) (fun _ _ e => e) (fun h' t tk hk => ⟨.str _, H, I.kept hk, ⟨_, rfl⟩, q⟩) hz
end
end L2

set_option maxHeartbeats 4000000
/-! own errors with one field: raised, and caught by several named clauses -/
namespace L2
open PySem PySem.Spec PyProof.Rows
/-- the class, as it stands behind the top: its name x, its field f -/
structure ErrC (K : PySem.W.Frag) (mg : Str → Option Value) (x f : Str) (C : Addr) (st : Stmt) (qual : Str) : Prop where
  o : OexC K C
  r : XfC K C
  g : mg x = some (.ref C)
  no : PySem.W.findIn K (.ref C) f = some none
  ini : ∃ (fI : Addr) (fd : FuncData), PySem.W.findIn K (.ref C) "__init__" = some (some (.ref fI)) ∧ PySem.W.typeIn K (.ref fI) = some (.type "function") ∧ Fun K "__init__" qual st fI fd
/-- what its __init__ promises -/
def spErr (f : Str) (C : Addr) : Sp := fun vs H Q _ => ∃ (a : Addr) (v : V), vs = [.ref a, v] ∧ H a = some (exo a C none) ∧ ∀ d, H d = none → d ≠ a → Q .non (upd (upd H d (exd d [(f, v)])) a (exo a C (some d)))
/-- the heap behind an error's making -/
theorem err_heap {H1 : Hp} {a d C : Addr} {o : HO} {u v : HO} (ha : H1 a = none) (hd : d ≠ a) : upd (del (upd (upd (upd H1 a u) d v) a (exo a C (some d))) a) d o = upd H1 d o := by
  funext b
  by_cases e : b = d
  · rw [e, upd_same, upd_same]
  · rw [upd_ne e, upd_ne e]
    by_cases z : b = a
    · rw [z, del_same, ha]
    · rw [del_ne z, upd_ne z, upd_ne e, upd_ne z]
/-- a monotone reading of the same arguments -/
theorem PA.up {X : Cx} {es : List Expr} {t : TA} (h : PA X es t) : PA X es (fun σ H Q => ∃ Q0 : List V → Hp → Prop, t σ H Q0 ∧ ∀ vs H1, Q0 vs H1 → Q vs H1) :=
  ⟨fun pos pins s σ H Q I q => by
    obtain ⟨Q0, q1, q2⟩ := q
    exact wpAny_mono (h.run pos pins s σ H Q0 I q1) (fun us s' z => let ⟨vs, H1, I1, r, q3⟩ := z; ⟨vs, H1, I1, r, q2 _ _ q3⟩) fun _ _ z => z⟩
def tErr (f : Str) (C : Addr) (t : TA) : St → Hp → XK → Prop := fun σ H Q => t σ H fun vs H1 => ∃ v, vs = [v] ∧ ∀ d, H1 d = none → Q (.ref C) (some d) (upd H1 d (.xd [(f, v)]))
section
variable {X : Cx} {x f qual : Str} {C : Addr} {st : Stmt} {p pos pos2 : Pos} {e : Expr} {t : TA} {W : WX}
theorem pmk_err (T : ErrC X.K X.mg x f C st qual) (F : ∀ fI fd, Fun X.K "__init__" qual st fI fd → FnOk X.prog X.w X.K X.mg X.base CX0 1 fI fd ["self", f] (spErr f C) ∧ Binds X.K fd ["self", f] []) (hr : Room 2 X.A) (ha : PA X [e] t) (hg : Gl X x := by rfl)
    (hdb : (x == ("__debug__" : Str)) = false := by decide) (he : starEach (e :: []) X.env = (false, eval e X.env) :: starEach [] X.env := by rfl) (hpl : (backTo pos (starEach [] X.env)).any (·.1) = false := by rfl) :
    PMk X (.Call (.Name x p) [e] [] pos) (tErr f C t) := by
  intro pins s σ H Q I h
  obtain ⟨fI, fd, i1, i2, i3⟩ := T.ini
  obtain ⟨f1, f2⟩ := F fI fd i3
  refine pmk_oex T.o i1 i2 f1 hr f2 .nil pass0 hg T.g ha.up hdb he hpl pins s σ H Q I ⟨_, h, fun vs H1 q => ?_⟩
  obtain ⟨v, rfl, q⟩ := q
  refine ⟨by show 1 ≤ 1000; decide, fun a na => ⟨a, v, rfl, upd_same, fun d hd ne => ⟨rfl, d, [(f, v)], upd_same, ?_, ?_, ?_⟩⟩⟩
  · exact (upd_ne ne).trans upd_same
  · rw [upd_ne ne] at hd
    exact hd
  · rw [upd_ne ne] at hd
    rw [err_heap na ne]
    exact q d hd
theorem ps_raiseE (hc : X.calm = true) (T : ErrC X.K X.mg x f C st qual) (F : ∀ fI fd, Fun X.K "__init__" qual st fI fd → FnOk X.prog X.w X.K X.mg X.base CX0 1 fI fd ["self", f] (spErr f C) ∧ Binds X.K fd ["self", f] []) (hr : Room 2 X.A) (tk : Takes X W) (ha : PA X [e] t) (hg : Gl X x := by rfl)
    (hdb : (x == ("__debug__" : Str)) = false := by decide) (he : starEach (e :: []) X.env = (false, eval e X.env) :: starEach [] X.env := by rfl) (hpl : (backTo pos (starEach [] X.env)).any (·.1) = false := by rfl) :
    PS X (.Raise (some (.Call (.Name x p) [e] [] pos)) none pos2) (fun _ σ H => tErr f C t σ H fun c d H' => W c d σ H') := ps_raise hc tk (pmk_err T F hr ha hg hdb he hpl)
end
end L2

set_option maxHeartbeats 4000000
/-! try: .. except A as n: .. except B as n: ..  (one name, several clauses) -/
namespace L2
open PySem PySem.Spec PyProof.Rows
abbrev Suite := Addr → Value → Option Addr → TS
/-- the ends of a suite whose error stands in slot i: behind it the slot is empty -/
def endsAs (i : Nat) (D : Ends) : Ends where
  nx := fun τ G => D.nx (τ.set i none) G
  rt := D.rt
  bk := fun τ G => D.bk (τ.set i none) G
  ct := fun τ G => D.ct (τ.set i none) G
/-- what the clauses wish, the first that fits -/
def wAses (K : PySem.W.Frag) (i : Nat) (Wo : WX) (D : Ends) : List (Value × Suite) → WX
  | [] => Wo
  | (c, ts) :: r => fun k d τ G => ∃ b, PySem.W.exmOne K k c = some b ∧ (b = true → ∀ a, G a = none → ts a k d (endsAs i D) (τ.set i (some (.ref a))) G) ∧ (b = false → wAses K i Wo D r k d τ G)
inductive Clauses (X : Cx) (n : Str) : List ExceptHandler → List (Value × Suite) → Prop
  | nil : Clauses X n [] []
  | cons {x : Str} {c : Value} {ts : Suite} {b₀ : Stmt} {bs : List Stmt} {q1 q2 : Pos} {hs : List ExceptHandler} {l : List (Value × Suite)} (names : Names X x c)
      (suite : ∀ (a : Addr) (o : Obj) (k : Value) (d : Option Addr) (pn : List (Addr × Obj)), Zc k d o → (∃ vs, o.data = .fields vs) → PSs (X.suite a ((a, o) :: pn)) (b₀ :: bs) (ts a k d)) (rest : Clauses X n hs l) :
      Clauses X n (.ExceptHandler (some (.Name x q1)) (some n) (b₀ :: bs) q2 :: hs) ((c, ts) :: l)
/-- an error that has landed in the frame of X -/
structure Landed (X : Cx) (pins : List (Addr × Obj)) (τ : St) (G : Hp) (a : Addr) (k : Value) (d : Option Addr) (B : Heap) (sI s' : Shared) : Prop where
  inv : Inv X pins τ G sI
  nb : ∀ b o, sI.heap.get? b = some o → b ∉ frs X.stack → B.get? b = some o
  os : s'.os = sI.os
  ag : AllBare s'.gens
  na : G a = none
section
variable {X : Cx} {n : Str} {i : Nat} {hs : List ExceptHandler} {l : List (Value × Suite)} {Wo : WX} {pins : List (Addr × Obj)} {τ : St} {G : Hp} {a : Addr} {k : Value} {d : Option Addr} {B : Heap} {sI s' : Shared} {D : Ends}
theorem clauses_run (hst : X.stack = X.env :: X.outer) (hfr : X.env.frame = some X.env.locals) (nd : X.N.Nodup) (hi : X.N[i]? = some n) (loc : X.env.kindOf n = some .local) (tk : Takes X Wo) (L : Landed X pins τ G a k d B sI s') (hc : Clauses X n hs l) :
    ∀ {h : Heap}, HandSPX.FlyingZ B (X.env :: X.outer) a (Zc k d) h → sI.heap.UpToSlots h → wAses X.K i Wo D l k d τ G → wpAny (model X.prog X.w) X.A (handleBy (.ref a) X.env hs) (SP X pins D) X.xe { s' with heap := h } := by
  have ok := L.inv.ok
  induction hc with
  | nil =>
    intro h fl up w
    refine wpAny_handleBy_nil ?_
    obtain ⟨_, _, _, o, vs, T, oT, ts, e1, _, e2, e3, _⟩ := id fl
    unfold PySem.passOn
    refine wpAny_bind (wpAny_field e1 e2 e3 ?_)
    rw [if_neg (by simp : ¬ ((Value.ref T == Value.none) = true))]
    have out : wpAny (model X.prog X.w) X.A (setFlight (.ref a) X.env.frame) (fun _ z => wpAny (model X.prog X.w) X.A (throw (.ref a) : Sem Flow) (SP X pins D) X.xe z) X.xe { s' with heap := h } := by
      rw [hfr]
      exact HandSPX.setFlight_upZ fl fun h4 held up4 => wpAny_throw (tk _ _ ⟨a, B, sI, pins, τ, G, k, d, rfl, L.inv, L.nb, up.trans up4, .inr (.inr (by rw [hst]; exact held)), L.na, L.os, L.ag, w⟩)
    first
      | exact wpAny_bind (wpAny_pure (wpAny_bind out))
      | exact wpAny_bind out
  | @cons x c ts b₀ bs q1 q2 hs2 l2 names suite rest ih =>
    intro h fl up w
    obtain ⟨b, hb, yes, no⟩ := w
    obtain ⟨o, vs, e1, z1, e2⟩ := fl.there
    -- the error's object is no frame
    have away : ∀ {h' : Heap} {o' : Obj} {ws : Array Value}, h'.FunFrames B (X.env :: X.outer) → h'.get? a = some o' → o'.data = .fields ws → a ≠ X.env.locals ∧ a ∉ X.fs := fun {h' o' ws} ff e dd => by
      have no' : a ∉ frs (X.env :: X.outer) := fun m => by
        obtain ⟨_, o2, e', nf⟩ := ff.mem m
        rw [e] at e'
        cases e'
        exact nf _ dd
      refine ⟨fun z => no' (List.mem_filterMap.mpr ⟨X.env, List.mem_cons_self, by rw [hfr, z]⟩), fun m => ?_⟩
      obtain ⟨v, hv, q⟩ := List.mem_filterMap.mp m
      exact no' (List.mem_filterMap.mpr ⟨v, List.mem_cons_of_mem _ hv, q⟩)
    have J : Inv X pins τ G { s' with heap := h } := L.inv.landed L.nb fl.1 up L.os L.ag
    obtain ⟨nL, nF⟩ := away fl.2.2.1 e1 e2
    have S := J.suite e1 e2 L.na nL nF
    refine wpAny_handleBy_cons (codeAny_handlers_test ?_) (by intro q; cases q)
    have ty : PySem.W.Looks (model X.prog X.w) h (typeOf (.ref a)) k := fun _ _ _ _ kp q => wpAny_typeOf_ref (kp _ _ e1) (by rw [z1.1]; exact q)
    have fits := PySem.W.exm_one (M := model X.prog X.w) J.kIn ty hb
    have cls : ∀ {Q E : Value → Shared → Prop}, Q c { s' with heap := h } → wpAny (model X.prog X.w) (X.A.mark (some (.ref a))) (eval (.Name x q1) X.env) Q E { s' with heap := h } := fun {Q E} q => by
      obtain ⟨g1, g2, g3 | ⟨g3, g4, g5⟩⟩ := names
      · exact ld_glob (X := X.suite a ((a, o) :: (X.pn ++ pins))) S g1 g3 q g2
      · exact ld_blt (X := X.suite a ((a, o) :: (X.pn ++ pins))) S g1 g3 g4 q g5 g2
    refine cls (fits.here ?_)
    cases b with
    | false =>
      show wpAny _ X.A (handleBy (.ref a) X.env hs2) _ _ _
      exact ih fl up (no rfl)
    | true =>
      refine codeAny_handlers_suite_as (HandSPX.lands_againZ fl fun h4 fl4 up4 => ?_)
      have J4 : Inv X pins τ G { s' with heap := h4 } := L.inv.landed L.nb fl4.1 (up.trans up4) L.os L.ag
      obtain ⟨o4, vs4, f1, z4, f2⟩ := fl4.there
      have S4 := J4.suite f1 f2 L.na nL nF
      refine store_ok (X := X.suite a ((a, o4) :: (X.pn ++ pins))) (v := .ref a) S4 nd hi (.inl loc) rfl (fun s5 S5 => ?_) (.inr loc)
      refine wpAny_mono ((suite a o4 k d (X.pn ++ pins) z4 ⟨_, f2⟩).run [] s5 _ G _ S5 (yes rfl a L.na)) (fun f s6 hsp => ?_) (fun _ _ z => False.elim z)
      have fin : ∀ {τ6 : St} {G6 : Hp} {Q : Shared → Prop}, Inv (X.suite a ((a, o4) :: (X.pn ++ pins))) [] τ6 G6 s6 → (∀ s7, Inv X pins (τ6.set i none) G6 s7 → Q s7) →
          wpAny (model X.prog X.w) X.A (do bindName X.env n .none; unbindBehindTheSuite X.env n q2) (fun _ z => Q z) X.xe s6 := fun {τ6 G6 Q} S6 hq => gone_ok (S6.unsuite ok) nd hi loc hq
      match f, hsp with
      | .next, ⟨_, _, S6, q⟩ => exact fin S6 fun _ J7 => ⟨_, _, J7, q⟩
      | .brk, ⟨_, _, S6, q⟩ => exact fin S6 fun _ J7 => ⟨_, _, J7, q⟩
      | .cont, ⟨_, _, S6, q⟩ => exact fin S6 fun _ J7 => ⟨_, _, J7, q⟩
      | .ret u, ⟨_, _, _, S6, r, q⟩ => exact fin S6 fun _ J7 => ⟨_, _, _, J7, r, q⟩
end
section
variable {X : Cx} {n : Str} {i : Nat} {h₀ : ExceptHandler} {hs : List ExceptHandler} {l : List (Value × Suite)} {Wo : WX} {body : List Stmt} {tb : WX → TS} {pos : Pos}
theorem ps_try_ases (hst : X.stack = X.env :: X.outer) (hfr : X.env.frame = some X.env.locals) (nd : X.N.Nodup) (hi : X.N[i]? = some n) (loc : X.env.kindOf n = some .local) (tk : Takes X Wo)
    (hb : ∀ (W : WX) (pn : List (Addr × Obj)) (xe : Value → Shared → Prop), Takes (X.tr pn xe) W → PassesOwn (model X.prog X.w) X.A X.env xe → PSs (X.tr pn xe) body (tb W)) (hc : Clauses X n (h₀ :: hs) l) :
    PS X (.Try body (h₀ :: hs) [] [] pos) (fun D σ H => tb (wAses X.K i Wo D l) D σ H) := by
  refine ⟨fun pins s σ H D I q => ?_⟩
  have ok := I.ok
  have frames : X.A.frames = some (X.env :: X.outer) := by rw [ok.frames, hst]
  let xe : Value → Shared → Prop := fun e s1 => wpAny (model X.prog X.w) X.A (noteFrame e X.env) (fun _ s2 => wpAny (model X.prog X.w) X.A (setFlight e none) (fun _ s3 => wpAny (model X.prog X.w) X.A (handleBy e X.env (h₀ :: hs)) (SP X pins D) X.xe s3) X.xe s2) X.xe s1
  have caught : Takes (X.tr (X.pn ++ pins) xe) (wAses X.K i Wo D l) := fun u s' z => by
    obtain ⟨a, B, sI, pins', τ, G, k, d, rfl, J', nb, up, sky, na, os, ag, w⟩ := z
    refine Sky.land Zc.steady frames hfr (by rw [← hst]; exact sky) fun h3 fl up3 => ?_
    exact clauses_run hst hfr nd hi loc tk ⟨J'.ofTry ok, nb, os, ag, na⟩ hc fl (up.trans up3) w
  refine wpAny_Try_except (wpAny_mono ((hb _ (X.pn ++ pins) xe caught PassesOwn.looking).run [] s σ H D (I.toTry _) q) (fun f s1 z => ?_) fun _ _ z => z)
  match f, z with
  | .next, ⟨_, _, J, w⟩ => exact wpAny_execs_nil ⟨_, _, J.ofTry ok, w⟩
  | .brk, ⟨_, _, J, w⟩ => exact ⟨_, _, J.ofTry ok, w⟩
  | .cont, ⟨_, _, J, w⟩ => exact ⟨_, _, J.ofTry ok, w⟩
  | .ret u, ⟨_, _, _, J, r, w⟩ => exact ⟨_, _, _, J.ofTry ok, r, w⟩
end
end L2

set_option maxHeartbeats 4000000
/-! the end of a law row whose defs make lambdas: the tables of code objects, where no guard stands -/
namespace L2
open PySem PySem.Spec PyProof.Rows
abbrev emptyTab : Obj := { cls := .none, data := .fields #[] }
/-- an abstract heap with the tables at the addresses of T -/
def withTabs (T : List Addr) (H : Hp) : Hp := fun b => if b ∈ T then some (.tbl #[]) else H b
theorem withTabs_in {T : List Addr} {H : Hp} {b : Addr} (h : b ∈ T) : withTabs T H b = some (.tbl #[]) := if_pos h
theorem withTabs_out {T : List Addr} {H : Hp} {b : Addr} (h : b ∉ T) : withTabs T H b = H b := if_neg h
theorem law_callGT {P : Program} {w : World} {K : PySem.W.Frag} {mg mb : Str → Option Value} {k : Nat} {fa a : Addr} {fd : FuncData} {x : Str} {sp : Sp} {s : Shared} {vs : List Value} {ns : List Int} {cs : List (Addr × Addr)}
    (KX : K.In s.heap) (hns : s.heap.Ns mainGlobals mg) (hb : s.heap.Ns builtinsNs mb) (hbb : ∀ y : Str, y ≠ "__name__" → mb y = bootBuiltins y) (nl : s.heap.NoLimit) (hg : s.gens = #[])
    (tabs : ∀ p ∈ cs, s.heap.get? p.2 = some emptyTab) (loose : ∀ p ∈ cs, K.lookup p.2 = none) (codes : ∀ p ∈ cs, PySem.W.CodeHd s.heap p.1 p.2)
    (bm : ∃ (m : Addr) (ob : Obj), mg "__builtins__" = some (.ref m) ∧ m ≠ builtinsNs ∧ s.heap.get? m = some ob ∧ ob.cls = .type "module" ∧ ob.dict = some builtinsNs ∧ ob.data = .plain)
    (ha : s.heap.get? a = some { cls := .type "list", data := .seq vs.toArray }) (hi : IntsAre vs ns) (hl : ns.length ≤ sizeLine) (hr : Room k callerA)
    (F : ∀ base : Heap, K.In base → base.Ns mainGlobals mg → (∀ p ∈ cs, LamX.TabB base mg p.1 p.2) → FnG P w K mg base CX0 k fa fd [x] sp) (bind : ∀ (s : Shared) (u : Value), BindsTo s fd ⟨[u], []⟩ [(x, u)])
    (hsp : ∀ H : Hp, (∀ p ∈ cs, H p.2 = some (.tbl #[])) → SqL K H a (ns.map V.int) → sp [.ref a] H (fun v _ => v = .bl true) E0) :
    codeAny (model P w) callerA (.call (.ref fa) ⟨[.ref a], []⟩) (fun r s' => r = .ok (.ret (.bool true)) ∧ OldK s.heap s'.heap ∧ s'.os = s.os ∧ AllBare s'.gens) s := by
  obtain ⟨H0, only0, seq0, ok0, at0, out0⟩ := script_told (P := P) (w := w) KX ha hi hl
  let T : List Addr := cs.map (·.2)
  have isT : ∀ {b : Addr}, b ∈ T → s.heap.get? b = some emptyTab := fun hb => by
    obtain ⟨p, hp, e⟩ := List.mem_map.mp hb
    exact e ▸ tabs p hp
  have inT : ∀ {p : Addr × Addr}, p ∈ cs → p.2 ∈ T := fun hp => List.mem_map_of_mem hp
  have aT : a ∉ T := fun z => by
    have q := (isT z).symm.trans ha
    cases q
  let H : Hp := withTabs T H0
  have at_a : H a = H0 a := withTabs_out aT
  have seq : SqL K H a (ns.map V.int) := by
    rcases seq0 with (h | ⟨o, h⟩) | h
    · exact .inl (.inl (at_a.trans h))
    · exact .inl (.inr ⟨o, at_a.trans h⟩)
    · exact .inr h
  have where_ : ∀ b, H b ≠ none → b = a ∨ b ∈ T := fun b h => by
    by_cases z : b ∈ T
    · exact .inr z
    · exact .inl (at0 b (by rw [← withTabs_out (H := H0) z]; exact h))
  have ok : HOk P w H s.heap := fun b u e => by
    by_cases z : b ∈ T
    · have q : some (HO.tbl #[]) = some u := (withTabs_in z).symm.trans e
      cases q
      exact isT z
    · have q : H0 b = some u := (withTabs_out z).symm.trans e
      rcases only0 b with h | ⟨o, xs, h⟩
      · rw [h] at q; cases q
      · rw [h] at q
        cases q
        exact ok0 b _ h
  -- what is neither a list nor a table is in the ground
  have low : ∀ {b : Addr} {o : Obj}, s.heap.get? b = some o → (∀ us n, o.data ≠ .seq us n) → o.data ≠ .fields #[] → (hidT s.heap H).get? b = some o := fun {b o} e n1 n2 => hidT_get e (by
    cases q : H b with
    | none => rfl
    | some u =>
      rcases where_ b (by rw [q]; simp) with z | z
      · subst z
        rw [ha] at e
        cases e
        exact absurd rfl (n1 _ _)
      · rw [isT z] at e
        cases e
        exact absurd rfl n2)
  have dicts : ∀ {b : Addr} {m : Str → Option Value}, s.heap.Ns b m → (hidT s.heap H).Ns b m := fun n => by
    obtain ⟨o, es, ep, e, d, r⟩ := n
    exact ⟨o, es, ep, low e (fun us n z => by rw [d] at z; cases z) (fun z => by rw [d] at z; cases z), d, r⟩
  have hKb : K.In (hidT s.heap H) := fun b o e => hidT_get (KX b o e) (by
    cases q : H b with
    | none => rfl
    | some u =>
      rcases where_ b (by rw [q]; simp) with z | z
      · subst z
        rw [out0 (by rw [← at_a, q]; simp)] at e
        cases e
      · obtain ⟨p, hp, ep⟩ := List.mem_map.mp z
        rw [← ep, loose p hp] at e
        cases e)
  have tb : ∀ p ∈ cs, LamX.TabB (hidT s.heap H) mg p.1 p.2 := fun p hp => by
    refine ⟨?_, ?_, fun z => ?_⟩
    · obtain ⟨o, us, file, tf, fl, tg, inF, text, tt, e1, r1, r2, r3, r⟩ := codes p hp
      exact ⟨o, us, file, tf, fl, tg, inF, text, tt, low e1 (fun _ _ z => by rw [r2] at z; cases z) (fun z => by rw [r2] at z; cases z; simp at r3), r1, r2, r3, r⟩
    · obtain ⟨m, ob, b1, b2, b3, b4, b5, b6⟩ := bm
      refine ⟨m, ob, b1, b2, fun z => ?_, fun z => ?_, low b3 (fun _ _ z => by rw [b6] at z; cases z) (fun z => by rw [b6] at z; cases z), b4, b5, b6⟩
      · obtain ⟨o, es, ep, e, hd, _⟩ := hns
        rw [z, e] at b3
        cases b3
        rw [hd] at b6
        cases b6
      · rw [z, tabs p hp] at b3
        cases b3
        cases b6
    · obtain ⟨o, es, ep, e, hd, _⟩ := hns
      rw [z, tabs p hp] at e
      cases e
      cases hd
  obtain ⟨mc, n1, n2⟩ := nl
  have e0 : Env0 P w K mg (hidT s.heap H) callerA [] s H :=
    ⟨rfl, ⟨hKb, dicts hns, ⟨mb, dicts hb, hbb⟩, ⟨mc, dicts n1, n2⟩⟩, fun b o e => of_hidT e, Nat.le_of_eq (hidT_size _ _), trivial, fun b z => (nomatch z), ok, .of_eq hg⟩
  refine codeAny_mono ((F _ hKb (dicts hns) tb).run callerA [] s H ⟨[.ref a], []⟩ [.ref a] [.ref a] _ _ hr rfl e0 (bind s (.ref a)) (.cons rfl .nil) (hsp H (fun p hp => withTabs_in (inT hp)) seq)) fun r s' h => ?_
  match r, h with
  | .ok (.ret u), ⟨v, H', os, bare, un, ok', rv, (q : v = .bl true)⟩ =>
    subst q
    cases (show u = Value.bool true from rv)
    have stays : ∀ b o, b ∉ T → s.heap.get? b = some o → s'.heap.get? b = some o := fun b o nb e => by
      have q : H b = H0 b := withTabs_out nb
      rcases only0 b with z | ⟨ob, xs, z⟩
      · exact un.keep b o e (q.trans z) (fun m => nomatch m) (fun m => nomatch m)
      · have e1 := (ok b _ (q.trans z)).1
        rw [e] at e1
        cases e1
        exact (ok' b _ (un.frzs b o _ (q.trans z))).1
    have grown : ∀ p ∈ cs, ∃ more : Array Value, s'.heap.get? p.2 = some { cls := .none, data := .fields more } := fun p hp => by
      obtain ⟨more, z⟩ := un.tbls p.2 #[] (withTabs_in (inT hp))
      exact ⟨_, ok' p.2 _ z⟩
    refine ⟨rfl, ⟨fun b o e => ?_, fun b o e => ?_⟩, os, bare⟩
    · by_cases z : b ∈ T
      · obtain ⟨p, hp, ep⟩ := List.mem_map.mp z
        obtain ⟨more, hm⟩ := grown p hp
        subst ep
        rw [tabs p hp] at e
        cases e
        exact .inr (.inl ⟨((codes p hp).tab (tabs p hp)).isCodeTable, rfl, #[], more, rfl, by rw [Array.empty_append]; exact hm⟩)
      · exact .inl (stays b o z e)
    · by_cases z : b ∈ T
      · obtain ⟨p, hp, ep⟩ := List.mem_map.mp z
        obtain ⟨more, hm⟩ := grown p hp
        exact ⟨_, ep ▸ hm⟩
      · exact ⟨o, stays b o z e⟩
/-- what is known of the law's def at the heap behind the top -/
def LawGT (l : PySem.W.OpenLaw) (w : World) (K : PySem.W.Frag) (k n : Nat) (x : Str) (mg : Str → Option Value) (fa : Addr) (h : Heap) : Prop :=
  ∃ (fd : FuncData) (cs : List (Addr × Addr)) (sp : Sp), (∀ p ∈ cs, h.get? p.2 = some emptyTab) ∧ (∀ p ∈ cs, K.lookup p.2 = none) ∧ (∀ p ∈ cs, PySem.W.CodeHd h p.1 p.2) ∧ (∀ (s : Shared) (u : Value), BindsTo s fd ⟨[u], []⟩ [(x, u)]) ∧
    (∀ (H : Hp) (a : Addr) (ns : List Int), ns.length ≤ n → (∀ p ∈ cs, H p.2 = some (.tbl #[])) → SqL K H a (ns.map V.int) → sp [.ref a] H (fun v _ => v = .bl true) E0) ∧
    ∀ base : Heap, K.In base → base.Ns mainGlobals mg → (∀ p ∈ cs, LamX.TabB base mg p.1 p.2) → FnG l.prog w K mg base CX0 k fa fd [x] sp
theorem walk_ofGT {l : PySem.W.OpenLaw} {n k : Nat} {q : Program} {loose : List Str} {XP : (Str → Option Value) → Heap → Prop} {YP : World → Heap → Prop} {d : DefRec} {K : Params → PySem.W.Frag} {x : Str}
    (hn : l.most = some n) (hn2 : n ≤ sizeLine) (hdf : d.params.defaults = []) (hr : Room k callerA) (hY : ∀ (w : World) (h : Heap), YP w h → (K w.params).In h)
    (F : ∀ (w : World) (mg : Str → Option Value) (fa : Addr) (h : Heap), YP w h → (K w.params).In h → h.Ns mainGlobals mg → mg d.name = some (.ref fa) → LawGT l w (K w.params) k n x mg fa h) :
    PySem.W.WalkO q loose XP YP l.row.toRowW d [] (fun f vs => PySem.call f vs) := by
  refine Att.attach_call hn hdf fun w s₀ s mg mb fa o pm cd doc a vs ns G Y ho hd hcd hmg hobj hints hlen hg => ?_
  obtain ⟨fd, cs, sp, h1, h2, h3, h4, h5, h6⟩ := F w mg fa _ Y (hY w _ Y) G.T.g hmg
  exact law_callGT (hY w _ Y) G.T.g G.T.b G.T.builtins G.T.nolimit hg h1 h2 h3 G.T.bmain hobj hints (Nat.le_trans hlen hn2) hr h6 h4 fun H z1 z2 => h5 H a ns hlen z1 z2
end L2

set_option maxHeartbeats 4000000
/-! how long a told value is; repr of a pair whose second may be an empty dict -/
namespace L2
open PySem PySem.Spec PyProof.Rows
mutual
/-- data whose text has a bound by its shape -/
def fine : PyData → Bool
  | .none => true
  | .bool _ => true
  | .int i => decide (i.natAbs.log2 < 1920)
  | .str x => x.cps.all fun c => decide (c < 0x110000)
  | .list xs => fineAll xs
  | .tuple xs => fineAll xs
  | .dict [] => true
  | .dict (_ :: _) => false
def fineAll : List PyData → Bool
  | [] => true
  | x :: xs => fine x && fineAll xs
end
mutual
def wt : PyData → Nat
  | .none => 4
  | .bool _ => 5
  | .int _ => 1921
  | .str x => 10 * x.length + 2
  | .list xs => wtAll xs + 2
  | .tuple xs => wtAll xs + 3
  | .dict _ => 2
def wtAll : List PyData → Nat
  | [] => 0
  | x :: xs => wt x + 2 + wtAll xs
end
theorem textFrom_le : ∀ (ts : List Str) (k : Nat) (acc : Str), (textFrom k acc ts).length ≤ acc.length + piled ts
  | [], k, acc => by simp [textFrom, piled]
  | t :: ts, k, acc => by
    unfold textFrom
    refine Nat.le_trans (textFrom_le ts (k + 1) _) ?_
    rw [piled_cons, strLen_append, strLen_append]
    have : ((if k > 0 then ", " else "" : String) : Str).length ≤ 2 := by split <;> decide
    omega
theorem join_le (ts : List Str) : (Str.join ", " ts).length ≤ piled ts := by
  cases ts with
  | nil => decide
  | cons t r =>
    have := join_length_add (t :: r) (by simp)
    omega
mutual
theorem fine_ok : ∀ d : PyData, fine d = true → d.showable = true ∧ d.shown.length ≤ wt d
  | .none, _ => ⟨rfl, by decide +kernel⟩
  | .bool true, _ => ⟨rfl, by decide +kernel⟩
  | .bool false, _ => ⟨rfl, by decide +kernel⟩
  | .int i, h => ⟨by simpa [fine, PyData.showable] using h, by
      have : i.natAbs.log2 < 1920 := by simpa [fine] using h
      exact int_text_len_1921 this⟩
  | .str x, h => ⟨rfl, by
      refine StrLaws.reprText_len x fun c hc => ?_
      have h' : x.cps.all (fun c => decide (c < 0x110000)) = true := h
      have := (Array.all_eq_true_iff_forall_mem.mp h') c (Array.mem_toList_iff.mp hc)
      have : c < 0x110000 := of_decide_eq_true this
      omega⟩
  | .list xs, h => by
    obtain ⟨a, b⟩ := fineAll_ok xs h
    refine ⟨a, ?_⟩
    show (textFrom 0 "[" (PyData.shownAll xs) ++ "]" : Str).length ≤ wtAll xs + 2
    rw [strLen_append]
    have q := textFrom_le (PyData.shownAll xs) 0 "["
    have l1 : ("[" : Str).length = 1 := rfl
    have l2 : ("]" : Str).length = 1 := rfl
    omega
  | .tuple xs, h => by
    obtain ⟨a, b⟩ := fineAll_ok xs h
    refine ⟨a, ?_⟩
    show (("(" : Str) ++ Str.join ", " (PyData.shownAll xs) ++ (if (PyData.shownAll xs).length == 1 then ",)" else ")" : String)).length ≤ wtAll xs + 3
    rw [strLen_append, strLen_append]
    have q := join_le (PyData.shownAll xs)
    have l1 : ("(" : Str).length = 1 := rfl
    have l2 : ((if (PyData.shownAll xs).length == 1 then ",)" else ")" : String) : Str).length ≤ 2 := by split <;> decide
    omega
  | .dict [], _ => ⟨rfl, by decide +kernel⟩
  | .dict (_ :: _), h => by cases h
theorem fineAll_ok : ∀ ds : List PyData, fineAll ds = true → PyData.showableAll ds = true ∧ piled (PyData.shownAll ds) ≤ wtAll ds
  | [], _ => ⟨rfl, Nat.le_refl _⟩
  | d :: ds, h => by
    obtain ⟨h1, h2⟩ := Bool.and_eq_true_iff.mp (show (fine d && fineAll ds) = true from h)
    obtain ⟨a, b⟩ := fine_ok d h1
    obtain ⟨c, e⟩ := fineAll_ok ds h2
    refine ⟨by simp [PyData.showableAll, a, c], ?_⟩
    show piled (d.shown :: PyData.shownAll ds) ≤ wt d + 2 + wtAll ds
    rw [piled_cons]
    omega
end
/-- data, or an empty dict -/
inductive Oq (K : PySem.W.Frag) (H : Hp) : V → PyData → Prop
  | of {v : V} {d : PyData} (h : Dp K H v d) : Oq K H v d
  | emp {a : Addr} (h : H a = some (.dK [])) : Oq K H (.ref a) (.dict [])
theorem Oq.ext {K : PySem.W.Frag} {H H' : Hp} {v : V} {d : PyData} (e : ∀ {u w}, Dp K H u w → Dp K H' u w) (f : ∀ a, H a = some (.dK []) → H' a = some (.dK [])) : Oq K H v d → Oq K H' v d
  | .of h => .of (e h)
  | .emp h => .emp (f _ h)
section
variable {X : Cx}
theorem emp_reads {pins : List (Addr × Obj)} {σ : St} {H : Hp} {s : Shared} {a : Addr} (I : Inv X pins σ H s) (h : H a = some (.dK [])) : Reads s.heap (.ref a) (.dict []) [a] ∧ sysModules ≠ a := by
  obtain ⟨_, n, vs, r, o, es, ep, e1, e2, e3, _, e5, _⟩ := dk_of I.hok h
  cases r
  have ez : es.toList = [] := by
    cases q : es.toList with
    | nil => rfl
    | cons x xs =>
      rw [q] at e5
      cases e5
  refine ⟨?_, fun z => by subst z; simp at n⟩
  have q := Reads.dict (kvs := []) (as := []) (bs := []) e1 e2.1 e3 (by rw [ez]; exact .nil) (by rw [ez]; exact .nil)
  exact q
/-- repr((text, x)) -/
def rReprP (K : PySem.W.Frag) (B : Nat) : List V → Hp → VK → Prop := fun xs H Q => ∃ (t : Addr) (x : Str) (v : V) (d : PyData), xs = [.ref t] ∧ SqT K H t [.str x, v] ∧ Oq K H v d ∧ fine (.tuple [.str x, d]) = true ∧ d.depth < B ∧ wt (.tuple [.str x, d]) ≤ 1000000 ∧
  Q (.str (PyData.tuple [.str x, d]).shown) H
end
theorem fine_size {d : PyData} (h : fine d = true) (w : wt d ≤ 1000000) : d.shown.length ≤ sizeLine := Nat.le_trans (fine_ok d h).2 (Nat.le_trans w (by decide))
section
variable {X : Cx}
theorem call_reprP {B : Nat} (hc : Calm X.A) (hu : X.A.units + (B + 1) < cLine) : CallR X (.builtin "repr") (rReprP X.K B) := by
  intro pins s σ H xs us Q I r h
  obtain ⟨t, x, v, d, rfl, ht, hd, hf, hB, hw, q⟩ := h
  cases hd with
  | of hd =>
    have e : (PyData.tuple [.str x, d]).depth ≤ B := by
      simp [PyData.depth, PyData.depthAll]
      omega
    exact call_reprD (B := B) hc hu pins s σ H [.ref t] us Q I r ⟨.ref t, .tuple [.str x, d], rfl, .tup ht (.cons (.str _) (.cons hd .nil)), (fine_ok _ hf).1, e, fine_size hf hw, q⟩
  | @emp a ha =>
    obtain ⟨u, rfl, ru⟩ := r.one
    cases (show u = Value.ref t from ru)
    obtain ⟨rd, ns⟩ := emp_reads I ha
    obtain ⟨its, rv, ⟨o, ho, hcl, n, hdt⟩, _⟩ := I.tuple ht
    obtain ⟨tk, w, rfl⟩ : ∃ tk w, its = [Value.str x tk, .ref a] := by
      cases rv with
      | cons r1 r2 =>
        cases r2 with
        | cons r3 r4 =>
          cases r4
          obtain ⟨tk, rfl⟩ := r1
          exact ⟨tk, (), by rw [show _ = Value.ref a from r3]⟩
    have rt : Reads s.heap (.ref t) (.tuple [.str x, .dict []]) ([] ++ ([a] ++ [])) := Reads.tuple ho hcl hdt (.cons (.str _ _) (.cons rd .nil))
    exact repr_of_reads' rt (fine_ok _ hf).1 (fun _ m => ns (by simpa using m)) hc (by have z : (PyData.tuple [.str x, .dict []]).depth = 2 := rfl; have z2 : (PyData.dict []).depth = 1 := rfl; omega) (fun _ _ e => e) (fun h' t tk hk => ⟨.str _, H, I.kept hk, ⟨_, rfl⟩, q⟩) (fine_size hf hw)
end
end L2

set_option maxHeartbeats 4000000
namespace N
open PySem L2
def top (i : Nat) : Stmt := PySem.Challenge.pw_stitchsizes_k15_kinds_by_their_fields.main.body.getD i (.Pass ⟨0, 0, 0, 0⟩)
structure Blts (mg : Str → Option Value) : Prop where
  n_abs : mg "abs" = none
  n_len : mg "len" = none
  n_max : mg "max" = none
  n_min : mg "min" = none
  n_int : mg "int" = none
  n_bool : mg "bool" = none
  n_divmod : mg "divmod" = none
  n_isinstance : mg "isinstance" = none
  n_range : mg "range" = none
  n_zip : mg "zip" = none
  n_tuple : mg "tuple" = none
  n_list : mg "list" = none
  n_str : mg "str" = none
  n_repr : mg "repr" = none
  n_all : mg "all" = none
  n_any : mg "any" = none
  n_sum : mg "sum" = none
  n_sorted : mg "sorted" = none
  n_dict : mg "dict" = none
  n_enumerate : mg "enumerate" = none
/-- a pot of draws: two counts -/
def Pot (H : Hp) (p : Addr) : Prop := ∃ a b : Int, H p = some (.lst [.int a, .int b]) ∧ 0 ≤ a ∧ 0 ≤ b ∧ b < 4294967296
/-- all that was tracked is as it was, but what stands at p -/
def But (p : Addr) (H H' : Hp) : Prop := ∀ b o, H b = some o → b ≠ p → H' b = some o
theorem But.refl {p : Addr} {H : Hp} : But p H H := fun _ _ h _ => h
theorem But.trans {p : Addr} {H H1 H2 : Hp} (a : But p H H1) (b : But p H1 H2) : But p H H2 := fun c o h n => b c o (a c o h n) n
theorem But.upd {p : Addr} {H : Hp} {o : HO} : But p H (L2.upd H p o) := fun c u h n => by rw [upd_ne n]; exact h
theorem But.new {p q : Addr} {H : Hp} {o : HO} (hq : H q = none) : But p H (L2.upd H q o) := fun c u h n => by rw [upd_ne (ne_of_none h hq)]; exact h
theorem But.free {p q : Addr} {H H' : Hp} (e : But p H H') (hp : q ≠ p) (h : H' q = Option.none) : H q = Option.none := by
  cases z : H q with
  | none => rfl
  | some o =>
    rw [e q o z hp] at h
    cases h
theorem Pot.at {H : Hp} {p : Addr} (h : Pot H p) : ∃ o, H p = some o := let ⟨_, _, e, _⟩ := h; ⟨_, e⟩
theorem Pot.ne {H : Hp} {p q : Addr} (h : Pot H p) (hq : H q = none) : q ≠ p := fun z => by obtain ⟨_, _, e, _⟩ := h; subst z; rw [hq] at e; cases e
theorem Pot.new {H : Hp} {p q : Addr} {o : HO} (h : Pot H p) (hq : H q = none) : Pot (L2.upd H q o) p := by
  obtain ⟨a, b, e, r⟩ := h
  exact ⟨a, b, by rw [upd_ne (ne_of_none e hq)]; exact e, r⟩
def spDraw : Sp := fun vs H Q _ => ∃ (p : Addr) (n : Int), vs = [.ref p, .int n] ∧ Pot H p ∧ 0 < n ∧ n < 1000000 ∧ ∀ d H', 0 ≤ d → d < n → Pot H' p → But p H H' → Q (.int d) H'
section
variable {P : Program} {w : World} {K : PySem.W.Frag} {mg : Str → Option Value} {base : Heap}
abbrev s__law_draw : Stmt := top 19
theorem sc__law_draw : FnScope ["_law_pot_here", "_law_many", "_law_digit"] ["_law_pot_here", "_law_many"] (defScope s__law_draw) := ⟨rfl, rfl, rfl, by decide +kernel, rfl, by decide +kernel, by decide +kernel⟩
theorem h_law_draw (B : Blts mg) (F : FunAt K mg "_law_draw" "_law_draw" s__law_draw) : Has P w K mg base "_law_draw" 1 ["_law_pot_here", "_law_many"] spDraw := by
  refine has_of F sc__law_draw (fun _ _ _ _ _ _ us hl => match us, hl with | [_, _], _ => rfl) (fun vs H Q E h => ?_) (fun f cdv A outer s H vs Q E hr h => ?_)
  · obtain ⟨p, n, rfl, _⟩ := h
    rfl
  · obtain ⟨p, n, rfl, hp, h0, h1, k⟩ := h
    obtain ⟨a, b, hp, ha, hb, hb2⟩ := hp
    refine ⟨_, (pss_cons (ps_if (pt_cmpR op_gt (pe_ix ix_list (pv 0) pe_int (fun _ _ => rfl)) pe_int (by first | exact nomark _ | rfl)) (pss_cons (ps_asg (pe_callB call_divmod (by rfl) B.n_divmod (by decide +kernel) (pa_cons (pe_ix ix_list (pv 0) pe_int (fun _ _ => rfl)) (pa_cons (pv 1) pa_nil))) (pg_tup rfl (pgs_cons (pg_sub (pv 0) pe_int set_list) (pgs_cons (pg_name (i := 2) sc__law_draw.nd rfl (Or.inl rfl)) pgs_nil))))
        (pss_one (ps_ret (pv 2))))
        pss_nil)
      (pss_cons (ps_asg (pe_op op_mod (pe_callTy call_int1 (by rfl) B.n_int (by decide +kernel) (pa_cons (pe_op op_add (pe_op op_mul (pe_ix ix_list (pv 0) pe_int (fun _ _ => rfl)) pe_int) pe_int) pa_nil)) pe_int) (pg_sub (pv 0) pe_int set_list))
      (pss_one (ps_ret (pe_op op_mod (pe_callTy call_int1 (by rfl) B.n_int (by decide +kernel) (pa_cons (pe_op op_fdiv (pe_op op_mod (pe_callTy call_int1 (by rfl) B.n_int (by decide +kernel) (pa_cons (pe_op op_mul (pe_ix ix_list (pv 0) pe_int (fun _ _ => rfl)) (pe_ix ix_list (pv 0) pe_int (fun _ _ => rfl))) pa_nil)) pe_int) pe_int) pa_nil)) (pv 1)))))), ?_⟩
    refine ⟨_, rfl, p, _, 0, _, rfl, rfl, SqL.of hp, rfl, _, _, rfl, rfl, _, rfl, ?_⟩
    refine ite2 (fun c => ?_) (fun _ => ?_)
    · have c' : 0 < a := of_decide_eq_true c
      refine ⟨_, rfl, p, _, 0, _, rfl, rfl, SqL.of hp, rfl, _, rfl, a, n, rfl, ⟨h0, by omega⟩, fun q hq => ?_⟩
      refine ⟨q, _, rfl, SqT.of upd_same, rfl, _, _, rfl, _, rfl, p, _, 0, 0, rfl, rfl, (by rw [upd_ne (ne_of_none hp hq)]; exact hp), rfl, _, _, rfl, rfl, ?_⟩
      refine ⟨_, rfl, k _ _ (Int.emod_nonneg _ (by omega)) (Int.emod_lt_of_pos _ h0) ⟨a / n, b, upd_same, Int.ediv_nonneg ha (by omega), hb, hb2⟩ ?_⟩
      exact (But.new hq).trans But.upd
    · refine ⟨_, rfl, p, _, 1, _, rfl, rfl, SqL.of hp, rfl, _, _, rfl, rfl, .inr ⟨by omega, by omega⟩, _, _, rfl, rfl, .inl ⟨_, rfl, _, _, rfl, rfl, (by decide : (0 : Int) < 2147483587), _, rfl, p, _, 1, 1, rfl, rfl, hp, rfl, ?_⟩⟩
      have g0 : 0 ≤ (b * 44203 + 15511) % 2147483587 := Int.emod_nonneg _ (by decide)
      have g1 : (b * 44203 + 15511) % 2147483587 < 2147483587 := Int.emod_lt_of_pos _ (by decide)
      refine ⟨_, rfl, p, _, 1, _, rfl, rfl, SqL.of upd_same, rfl, _, rfl, p, _, 1, _, rfl, rfl, SqL.of upd_same, rfl, _, _, rfl, rfl, .inr ⟨by omega, by omega⟩, .inl ⟨_, rfl, _, _, rfl, rfl, (by decide : (0 : Int) < 2147483549), _, _, rfl, rfl, ⟨by decide, by decide⟩, .inl ⟨_, rfl, _, rfl, _, _, rfl, rfl, h0, ?_⟩⟩⟩
      exact k _ _ (Int.emod_nonneg _ (by omega)) (Int.emod_lt_of_pos _ h0) ⟨a, _, upd_same, ha, g0, by omega⟩ But.upd
end
end N

set_option maxHeartbeats 4000000
namespace N
open PySem L2
theorem But.of {p : Addr} {H H' : Hp} (h : Same H H') : But p H H' := fun b o e _ => h b o e
theorem Same.new {q : Addr} {H : Hp} {o : HO} (hq : H q = none) : Same H (L2.upd H q o) := fun c u h => by rw [upd_ne (ne_of_none h hq)]; exact h
theorem But.sq {p l : Addr} {K : PySem.W.Frag} {H H' : Hp} {xs : List V} (e : But p H H') (n : l ≠ p) (h : SqL K H l xs) : SqL K H' l xs := by
  rcases h with (h | ⟨o, h⟩) | h
  · exact .inl (.inl (e _ _ h n))
  · exact .inl (.inr ⟨o, e _ _ h n⟩)
  · exact .inr h
theorem But.st {p l : Addr} {K : PySem.W.Frag} {H H' : Hp} {xs : List V} (e : But p H H') (n : l ≠ p) (h : SqT K H l xs) : SqT K H' l xs := by
  rcases h with (h | ⟨o, h⟩) | h
  · exact .inl (.inl (e _ _ h n))
  · exact .inl (.inr ⟨o, e _ _ h n⟩)
  · exact .inr h
theorem atI_at {α : Type} {xs : List α} {d : Int} {v : α} (h0 : 0 ≤ d) (h : xs[d.toNat]? = some v) : atI xs d = some v := by
  have z := atI_nat h
  rwa [Int.toNat_of_nonneg h0] at z
def spPot (K : PySem.W.Frag) : Sp := fun vs H Q _ => ∃ (a : Addr) (ns : List Int) (k : Nat), vs = [.ref a, .int k] ∧ SqL K H a (ns.map V.int) ∧ ns.length ≤ 63 ∧ k ≤ 63 ∧ ∀ p H', H p = none → Pot H' p → Same H H' → Q (.ref p) H'
def spPick (K : PySem.W.Frag) : Sp := fun vs H Q _ => ∃ (p l : Addr) (xs : List V), vs = [.ref p, .ref l] ∧ Pot H p ∧ SqL K H l xs ∧ l ≠ p ∧ xs ≠ [] ∧ xs.length < 1000000 ∧ ∀ v H', v ∈ xs → Pot H' p → But p H H' → Q v H'
section
variable {P : Program} {w : World} {K : PySem.W.Frag} {mg : Str → Option Value} {base : Heap}
abbrev s__law_pot : Stmt := top 18
theorem sc__law_pot : FnScope ["_law_script", "_law_k", "_law_cell"] ["_law_script", "_law_k"] (defScope s__law_pot) := ⟨rfl, rfl, rfl, by decide +kernel, rfl, by decide +kernel, by decide +kernel⟩
theorem h_law_pot (B : Blts mg) (F : FunAt K mg "_law_pot" "_law_pot" s__law_pot) : Has P w K mg base "_law_pot" 1 ["_law_script", "_law_k"] (spPot K) := by
  refine has_of F sc__law_pot (fun _ _ _ _ _ _ us hl => match us, hl with | [_, _], _ => rfl) (fun vs H Q E h => ?_) (fun f cdv A outer s H vs Q E hr h => ?_)
  · obtain ⟨p, n, k, rfl, _⟩ := h
    rfl
  · obtain ⟨a, ns, j, rfl, hs, hn, hj, k⟩ := h
    refine ⟨_, (pss_cons (ps_set (i := 2) sc__law_pot.nd rfl (Or.inl rfl) (pe_ifExp (pt_cmpR op_lt (pv 1) (pe_callB call_len (by rfl) B.n_len PySem.boot_len (pa_cons (pv 0) pa_nil)) (by first | exact nomark _ | rfl)) (pe_ix ix_list (pv 0) (pv 1) (fun _ _ => rfl)) (pe_op op_mul pe_int (pv 1))))
      (pss_one (ps_ret (pe_lst (pa_cons (pe_callB (call_max2 rfl) (by rfl) B.n_max (by decide +kernel) (pa_cons pe_int (pa_cons (pe_op op_sub (pe_callB call_abs (by rfl) B.n_abs (by decide +kernel) (pa_cons (pv 2) pa_nil)) (pe_op op_pow pe_int pe_int)) pa_nil))) (pa_cons (pe_op op_add (pe_op op_mod (pe_callTy call_int1 (by rfl) B.n_int (by decide +kernel) (pa_cons (pe_op op_add (pe_op op_add (pe_op op_mul (pe_op op_mod (pe_callTy call_int1 (by rfl) B.n_int (by decide +kernel) (pa_cons (pe_callB call_abs (by rfl) B.n_abs (by decide +kernel) (pa_cons (pv 2) pa_nil)) pa_nil)) pe_int) pe_int) (pe_op op_mul pe_int (pv 1))) pe_int) pa_nil)) pe_int) pe_int) pa_nil)))))), ?_⟩
    have rest : ∀ z : Int, ∀ (c : Int), c = (if z < 0 then -z else z) → ∀ (y : Int), y = (if 0 < c - 10 ^ 18 then c - 10 ^ 18 else 0) →
        ∀ q, H q = none → Q (.ref q) (upd H q (.lst [.int y, .int ((c % 2147483563 * 40009 + 61297 * (j : Int) + 17) % 2147483629 + 1)])) := by
      intro z c hc y hy q hq
      have c0 : 0 ≤ c := by subst hc; split <;> omega
      have y0 : 0 ≤ y := by subst hy; split <;> omega
      have g0 : 0 ≤ (c % 2147483563 * 40009 + 61297 * (j : Int) + 17) % 2147483629 := Int.emod_nonneg _ (by decide)
      have g1 : (c % 2147483563 * 40009 + 61297 * (j : Int) + 17) % 2147483629 < 2147483629 := Int.emod_lt_of_pos _ (by decide)
      exact k q _ hq ⟨y, _, upd_same, y0, by omega, by omega⟩ (Same.new hq)
    refine ⟨_, rfl, _, rfl, _, ns.length, rfl, .inl ⟨_, hs, by rw [List.length_map]⟩, _, _, rfl, rfl, _, rfl, ?_⟩
    have e10 : ((10 : Int) ^ (18 : Int).toNat) = 10 ^ 18 := rfl
    refine ite2 (fun c => ?_) (fun c => ?_)
    · have hlt : j < ns.length := by have := of_decide_eq_true c; omega
      refine ⟨_, rfl, _, rfl, a, _, (j : Int), .int ns[j], rfl, rfl, hs, atI_nat (by rw [List.getElem?_map, List.getElem?_eq_getElem hlt]; rfl), ?_⟩
      have m0 := Int.emod_nonneg (if ns[j] < 0 then -ns[j] else ns[j]) (by decide : (2147483563 : Int) ≠ 0)
      have m1 := Int.emod_lt_of_pos (if ns[j] < 0 then -ns[j] else ns[j]) (by decide : (0 : Int) < 2147483563)
      refine ⟨_, rfl, _, rfl, _, _, rfl, rfl, ⟨by decide, by decide, by decide⟩, _, _, rfl, rfl, _, _, rfl, _, rfl, _, rfl, .inl ⟨_, rfl, _, _, rfl, rfl, (by decide : (0 : Int) < 2147483563), _, _, rfl, rfl, .inr ⟨by decide, by decide⟩, _, rfl, _, _, rfl, rfl, .inl ⟨by decide, by decide⟩, _, _, rfl, rfl, _, _, rfl, rfl, .inl ⟨_, rfl, _, _, rfl, rfl, (by decide : (0 : Int) < 2147483629), _, _, rfl, rfl, (by show 2 ≤ sizeLine; decide), fun q hq => rest ns[j] _ rfl _ rfl q hq⟩⟩⟩
    · refine ⟨_, rfl, _, _, rfl, rfl, .inl ⟨by decide, by decide⟩, ?_⟩
      refine ⟨_, rfl, _, rfl, _, _, rfl, rfl, ⟨by decide, by decide, by decide⟩, _, _, rfl, rfl, _, _, rfl, _, rfl, _, rfl, .inl ⟨_, rfl, _, _, rfl, rfl, (by decide : (0 : Int) < 2147483563), _, _, rfl, rfl, .inr ⟨by decide, by decide⟩, _, rfl, _, _, rfl, rfl, .inl ⟨by decide, by decide⟩, _, _, rfl, rfl, _, _, rfl, rfl, .inl ⟨_, rfl, _, _, rfl, rfl, (by decide : (0 : Int) < 2147483629), _, _, rfl, rfl, (by show 2 ≤ sizeLine; decide), fun q hq => rest (7 * (j : Int)) _ rfl _ rfl q hq⟩⟩⟩
abbrev s__law_pick : Stmt := top 20
theorem sc__law_pick : FnScope ["_law_pot_here", "_law_some"] ["_law_pot_here", "_law_some"] (defScope s__law_pick) := ⟨rfl, rfl, rfl, by decide +kernel, rfl, by decide +kernel, by decide +kernel⟩
theorem h_law_pick (B : Blts mg) (F : FunAt K mg "_law_pick" "_law_pick" s__law_pick) (h_law_draw : Has P w K mg base "_law_draw" 1 ["_law_pot_here", "_law_many"] spDraw) : Has P w K mg base "_law_pick" 2 ["_law_pot_here", "_law_some"] (spPick K) := by
  refine has_of F sc__law_pick (fun _ _ _ _ _ _ us hl => match us, hl with | [_, _], _ => rfl) (fun vs H Q E h => ?_) (fun f cdv A outer s H vs Q E hr h => ?_)
  · obtain ⟨p, n, k, rfl, _⟩ := h
    rfl
  · obtain ⟨p, l, xs, rfl, hp, hs, hne, hx, hlen, k⟩ := h
    refine ⟨_, (pss_one (ps_ret (pe_ix ix_list (pv 1) (pe_has h_law_draw (hr.mono (by decide)) (pa_cons (pv 0) (pa_cons (pe_callB call_len (by rfl) B.n_len PySem.boot_len (pa_cons (pv 1) pa_nil)) pa_nil))) (fun _ _ => rfl)))), ?_⟩
    have h0 : 0 < xs.length := List.length_pos_iff.mpr hx
    refine ⟨_, rfl, _, rfl, _, rfl, _, xs.length, rfl, .inl ⟨_, hs, rfl⟩, p, _, rfl, hp, by omega, by omega, fun d H' d0 d1 hp' e => ?_⟩
    have dl : d.toNat < xs.length := by omega
    exact ⟨l, xs, d, xs[d.toNat], rfl, rfl, e.sq hne hs, atI_at d0 (List.getElem?_eq_getElem dl), k _ _ (List.getElem_mem dl) hp' e⟩
end
end N

set_option maxHeartbeats 4000000
namespace N
open PySem L2
/-! ### a kind's values, right and wrong ones -/
structure Row where
  name : Str
  takes : Int
  makes : Int
  back : Option Str
  mirror : Option Str
  yarn : Int
def ov : Option Str → V
  | none => .non
  | some s => .str s
def letters : Str := "abcdefghijklmnopqrstuvwxyz"
def NameOk (s : Str) : Prop := 1 ≤ s.length ∧ s.length ≤ 8 ∧ ∀ c ∈ s.cps.toList, c ∈ letters.cps.toList
instance {s : Str} : Decidable (NameOk s) := by unfold NameOk; infer_instance
structure KindOk (r : Row) : Prop where
  name : NameOk r.name
  back : ∀ x, r.back = some x → NameOk x
  mirror : ∀ x, r.mirror = some x → NameOk x
  takes : 0 ≤ r.takes ∧ r.takes ≤ 6
  makes : 0 ≤ r.makes ∧ r.makes ≤ 6
  some_ : ¬ (r.takes = 0 ∧ r.makes = 0)
  yarn : 0 ≤ r.yarn ∧ r.yarn ≤ 999
def isI : V → Bool
  | .int _ => true
  | _ => false
def isS : V → Bool
  | .str _ => true
  | _ => false
def isB : V → Bool
  | .bl _ => true
  | _ => false
def goodN : V → Bool
  | .str s => decide (NameOk s)
  | _ => false
def goodO : V → Bool
  | .non => true
  | v => goodN v
def goodC : V → Bool
  | .int z => decide (0 ≤ z)
  | _ => false
def goodI (n : Int) : V → Bool
  | .int z => decide (0 ≤ z) && decide (z ≤ n)
  | _ => false
/-- the values that are handed to a kind here -/
inductive Odd (H : Hp) : V → Prop
  | non : Odd H .non
  | bl (b : Bool) : Odd H (.bl b)
  | int (i : Int) (h : i.natAbs.log2 < 1920) : Odd H (.int i)
  | str (s : Str) (h : s.length ≤ 100) (hc : (s.cps.all fun c => decide (c < 0x110000)) = true) : Odd H (.str s)
  | lst {a : Addr} (h : H a = some (.lst [])) : Odd H (.ref a)
  | tupS {a : Addr} (s : Str) (h : H a = some (.tup [.str s])) (hl : s.length ≤ 100) (hc : (s.cps.all fun c => decide (c < 0x110000)) = true) : Odd H (.ref a)
  | tupI {a : Addr} (i : Int) (h : H a = some (.tup [.int i])) (hl : i.natAbs.log2 < 1920) : Odd H (.ref a)
  | dic {a : Addr} (h : H a = some (.dK [])) : Odd H (.ref a)
theorem kits (T : String) (a b c : Bool) (h : (kitB T "str" == some a && kitB T "int" == some b && kitB T "bool" == some c) = true) : kitB T "str" = some a ∧ kitB T "int" = some b ∧ kitB T "bool" = some c := by
  simpa [and_assoc] using h
theorem Odd.ty {K : PySem.W.Frag} {H : Hp} {v : V} (h : Odd H v) : ∃ T, TyX K H v (.type T) ∧ kitB T "str" = some (isS v) ∧ kitB T "int" = some (isI v || isB v) ∧ kitB T "bool" = some (isB v) := by
  cases h with
  | non => exact ⟨_, .base .non, kits "NoneType" false false false (by decide +kernel)⟩
  | bl b => exact ⟨_, .base (.bl b), kits "bool" false true true (by decide +kernel)⟩
  | int i => exact ⟨_, .base (.int i), kits "int" false true false (by decide +kernel)⟩
  | str s => exact ⟨_, .base (.str s), kits "str" true false false (by decide +kernel)⟩
  | lst h => exact ⟨_, .base (.lst h), kits "list" false false false (by decide +kernel)⟩
  | tupS s h => exact ⟨_, .base (.tup h), kits "tuple" false false false (by decide +kernel)⟩
  | tupI s h => exact ⟨_, .base (.tup h), kits "tuple" false false false (by decide +kernel)⟩
  | dic h => exact ⟨_, .base (.dK h), kits "dict" false false false (by decide +kernel)⟩
theorem Odd.same {H H' : Hp} {v : V} (e : Same H H') (h : Odd H v) : Odd H' v := by
  cases h with
  | non => exact .non
  | bl b => exact .bl b
  | int i h => exact .int i h
  | str s h c => exact .str s h c
  | lst h => exact .lst (e _ _ h)
  | tupS s h l c => exact .tupS s (e _ _ h) l c
  | tupI i h l => exact .tupI i (e _ _ h) l
  | dic h => exact .dic (e _ _ h)
/-- the pot is no told list -/
theorem Odd.but {H H' : Hp} {v : V} {p : Addr} (hp : Pot H p) (e : But p H H') (h : Odd H v) : Odd H' v := by
  obtain ⟨x, y, ep, _⟩ := hp
  cases h with
  | non => exact .non
  | bl b => exact .bl b
  | int i h => exact .int i h
  | str s h c => exact .str s h c
  | lst h => exact .lst (e _ _ h fun z => by subst z; rw [ep] at h; cases h)
  | tupS s h l c => exact .tupS s (e _ _ h fun z => by subst z; rw [ep] at h; cases h) l c
  | tupI i h l => exact .tupI i (e _ _ h fun z => by subst z; rw [ep] at h; cases h) l
  | dic h => exact .dic (e _ _ h fun z => by subst z; rw [ep] at h; cases h)
/-- told beside a text -/
theorem Odd.data {K : PySem.W.Frag} {H : Hp} {v : V} (h : Odd H v) : ∃ d, Oq K H v d ∧ fine d = true ∧ d.depth ≤ 1 ∧ wt d ≤ 2000 := by
  cases h with
  | non => exact ⟨_, .of .non, rfl, by decide, by decide⟩
  | bl b => exact ⟨_, .of (.bl b), rfl, Nat.zero_le _, by show 5 ≤ 2000; decide⟩
  | int i h => exact ⟨_, .of (.int i), decide_eq_true h, Nat.zero_le _, by show 1921 ≤ 2000; decide⟩
  | str s h c => exact ⟨_, .of (.str s), c, Nat.zero_le _, by show 10 * s.length + 2 ≤ 2000; omega⟩
  | lst h => exact ⟨_, .of (.lst (SqL.of h) .nil), rfl, by decide, by decide⟩
  | tupS s h l c => exact ⟨_, .of (.tup (SqT.of h) (.cons (.str s) .nil)), by show (s.cps.all _ && true) = true; rw [c]; rfl, by show max 0 0 + 1 ≤ 1; decide, by show 10 * s.length + 2 + 2 + 0 + 3 ≤ 2000; omega⟩
  | tupI i h l => exact ⟨_, .of (.tup (SqT.of h) (.cons (.int i) .nil)), by show (decide _ && true) = true; rw [decide_eq_true l]; rfl, by show max 0 0 + 1 ≤ 1; decide, by show 1921 + 2 + 0 + 3 ≤ 2000; decide⟩
  | dic h => exact ⟨_, .emp h, rfl, by decide, by decide⟩
theorem kit_b {K : PySem.W.Frag} {a b : String} {r : Bool} (h : kitB a b = some r) : PySem.W.kitOne K (.type a) (.type b) = some r := kit_ty h
structure Globs (mg : Str → Option Value) : Prop where
  longest : ∃ t, mg "_LONGEST_NAME" = some (.int 8 t)
  letters : ∃ t, mg "_LETTERS" = some (.str "abcdefghijklmnopqrstuvwxyz" t)
  loops : ∃ t, mg "_MOST_LOOPS" = some (.int 6 t)
  yarn : ∃ t, mg "_MOST_YARN" = some (.int 999 t)
def spIsInt : Sp := fun vs H Q _ => ∃ v : V, vs = [v] ∧ Odd H v ∧ Q (.bl (isI v)) H
def spCount : Sp := fun vs H Q _ => ∃ v : V, vs = [v] ∧ Odd H v ∧ Q (.bl (goodC v)) H
def spCountTo : Sp := fun vs H Q _ => ∃ (v : V) (n : Int), vs = [v, .int n] ∧ Odd H v ∧ Q (.bl (goodI n v)) H
def spIsName : Sp := fun vs H Q _ => ∃ v : V, vs = [v] ∧ Odd H v ∧ ∀ H', Same H H' → Q (.bl (goodN v)) H'
section
variable {P : Program} {w : World} {K : PySem.W.Frag} {mg : Str → Option Value} {base : Heap}
abbrev s_is_integer : Stmt := top 3
theorem sc_is_integer : FnScope ["value"] ["value"] (defScope s_is_integer) := ⟨rfl, rfl, rfl, by decide +kernel, rfl, by decide +kernel, by decide +kernel⟩
theorem h_is_integer (B : Blts mg) (F : FunAt K mg "is_integer" "is_integer" s_is_integer) : Has P w K mg base "is_integer" 1 ["value"] spIsInt := by
  refine has_of F sc_is_integer (fun _ _ _ _ _ _ us hl => match us, hl with | [_], _ => rfl) (fun vs H Q E h => ?_) (fun f cdv A outer s H vs Q E hr h => ?_)
  · obtain ⟨v, rfl, _⟩ := h
    rfl
  · obtain ⟨v, rfl, hv, k⟩ := h
    obtain ⟨T, ty, _, ki, kb⟩ := hv.ty (K := K)
    refine ⟨_, (pss_one (ps_ret (pe_and (pe_callB call_isi (by rfl) B.n_isinstance (by decide +kernel) (pa_cons (pv 0) (pa_cons (pe_bltn (v := .ty "int") (u := .type "int") rfl B.n_int (by decide +kernel) rfl) pa_nil))) (pe_one (pe_not (pe_callB call_isi (by rfl) B.n_isinstance (by decide +kernel) (pa_cons (pv 0) (pa_cons (pe_bltn (v := .ty "bool") (u := .type "bool") rfl B.n_bool (by decide +kernel) rfl) pa_nil)))))))), ?_⟩
    refine ⟨_, rfl, _, _, _, _, _, rfl, .ty _, ty, kit_b ki, _, rfl, ?_⟩
    cases v with
    | int i => exact iteT ⟨_, rfl, _, _, _, _, _, rfl, .ty _, ty, kit_b kb, _, rfl, k⟩
    | bl b => exact iteT ⟨_, rfl, _, _, _, _, _, rfl, .ty _, ty, kit_b kb, _, rfl, k⟩
    | _ => exact iteF k
abbrev s_is_count : Stmt := top 4
theorem sc_is_count : FnScope ["value"] ["value"] (defScope s_is_count) := ⟨rfl, rfl, rfl, by decide +kernel, rfl, by decide +kernel, by decide +kernel⟩
theorem h_is_count (F : FunAt K mg "is_count" "is_count" s_is_count) (his_integer : Has P w K mg base "is_integer" 1 ["value"] spIsInt) : Has P w K mg base "is_count" 2 ["value"] spCount := by
  refine has_of F sc_is_count (fun _ _ _ _ _ _ us hl => match us, hl with | [_], _ => rfl) (fun vs H Q E h => ?_) (fun f cdv A outer s H vs Q E hr h => ?_)
  · obtain ⟨i, rfl, _⟩ := h
    rfl
  · obtain ⟨v, rfl, hv, k⟩ := h
    refine ⟨_, (pss_one (ps_ret (pe_and (pe_has his_integer (hr.mono (by decide)) (pa_cons (pv 0) pa_nil)) (pe_one (pe_cmpR op_ge (pv 0) pe_int (by first | exact nomark _ | rfl)))))), ?_⟩
    refine ⟨_, rfl, v, rfl, hv, _, rfl, ?_⟩
    cases v with
    | int i => exact iteT ⟨_, rfl, _, _, rfl, rfl, k⟩
    | _ => exact iteF k
abbrev s_is_count_to : Stmt := top 5
theorem sc_is_count_to : FnScope ["value", "most"] ["value", "most"] (defScope s_is_count_to) := ⟨rfl, rfl, rfl, by decide +kernel, rfl, by decide +kernel, by decide +kernel⟩
theorem h_is_count_to (F : FunAt K mg "is_count_to" "is_count_to" s_is_count_to) (his_count : Has P w K mg base "is_count" 2 ["value"] spCount) : Has P w K mg base "is_count_to" 3 ["value", "most"] spCountTo := by
  refine has_of F sc_is_count_to (fun _ _ _ _ _ _ us hl => match us, hl with | [_, _], _ => rfl) (fun vs H Q E h => ?_) (fun f cdv A outer s H vs Q E hr h => ?_)
  · obtain ⟨i, n, rfl, _⟩ := h
    rfl
  · obtain ⟨v, n, rfl, hv, k⟩ := h
    refine ⟨_, (pss_one (ps_ret (pe_and (pe_has his_count (hr.mono (by decide)) (pa_cons (pv 0) pa_nil)) (pe_one (pe_cmpR op_le (pv 0) (pv 1) (by first | exact nomark _ | rfl)))))), ?_⟩
    refine ⟨_, rfl, v, rfl, hv, _, rfl, ?_⟩
    cases v with
    | int i =>
      refine ite2 (fun c => ⟨_, rfl, _, rfl, _, _, rfl, rfl, ?_⟩) (fun c => ?_)
      · show Q (.bl (decide (i ≤ n))) H
        have c' : decide (0 ≤ i) = true := c
        have k' : Q (.bl (decide (0 ≤ i) && decide (i ≤ n))) H := k
        rw [c', Bool.true_and] at k'
        exact k'
      · have c' : decide (0 ≤ i) = false := by
          have c0 : ¬ decide (0 ≤ i) = true := c
          simpa using c0
        have k' : Q (.bl (decide (0 ≤ i) && decide (i ≤ n))) H := k
        rw [c', Bool.false_and] at k'
        exact k'
    | _ => exact iteF k
abbrev s_is_name : Stmt := top 6
theorem sc_is_name : FnScope ["value", "letter"] ["value"] (defScope s_is_name) := ⟨rfl, rfl, rfl, by decide +kernel, rfl, by decide +kernel, by decide +kernel⟩
theorem h_is_name (B : Blts mg) (G : Globs mg) (F : FunAt K mg "is_name" "is_name" s_is_name) : Has P w K mg base "is_name" 1 ["value"] spIsName := by
  obtain ⟨_, g_LONGEST_NAME⟩ := G.longest
  obtain ⟨_, g_LETTERS⟩ := G.letters
  refine has_of F sc_is_name (fun _ _ _ _ _ _ us hl => match us, hl with | [_], _ => rfl) (fun vs H Q E h => ?_) (fun f cdv A outer s H vs Q E hr h => ?_)
  · obtain ⟨i, rfl, _⟩ := h
    rfl
  · obtain ⟨v, rfl, hv, k⟩ := h
    obtain ⟨T, ty, ks, _, _⟩ := hv.ty (K := K)
    refine ⟨_, (pss_cons (ps_if (PW.pt (pw_or (pt_not (pt_val (pe_callB call_isi (by rfl) B.n_isinstance (by decide +kernel) (pa_cons (pv 0) (pa_cons (pe_bltn (v := .ty "str") (u := .type "str") rfl B.n_str (by decide +kernel) rfl) pa_nil))))) (pw_or1 (pt_not (pt_chain op_le op_le pe_int (pe_callB call_len (by rfl) B.n_len PySem.boot_len (pa_cons (pv 0) pa_nil)) (pe_glob (v := .int 8) rfl g_LONGEST_NAME ⟨_, rfl⟩)))))) (pss_one (ps_ret pe_bl))
        pss_nil)
      (pss_one (ps_ret (pe_callB (cr_all rfl) (by rfl) B.n_all (by decide +kernel) (pa_cons (pe_lc (own := [("letter", 1)]) rfl sc_is_name.nd (pi_str (pv 0)) (blkOk_by (own := [("letter", 1)]) (N := ["value", "letter"]) (sc := defScope s_is_name) (by decide +kernel)) (fun _ _ _ _ _ => by exact (pg_name (i := 1) sc_is_name.nd rfl (Or.inl rfl))) (fun _ _ _ _ _ => by exact pts_nil) (fun _ _ _ _ _ => by exact (pe_cmpR op_in_sign (pv 1) (pe_glob (v := .str "abcdefghijklmnopqrstuvwxyz") rfl g_LETTERS ⟨_, rfl⟩) (by first | exact nomark _ | rfl)))) pa_nil))))), ?_⟩
    refine ⟨_, rfl, _, _, _, _, _, rfl, .ty _, ty, kit_b ks, _, rfl, ?_⟩
    cases v with
    | str z =>
      have hz : z.length ≤ 100 := by cases hv; assumption
      have z8 : z.length ≤ sizeLine := Nat.le_trans hz (by decide)
      refine iteF ?_
      refine ⟨_, rfl, _, z.length, rfl, ⟨z8, rfl⟩, _, _, rfl, rfl, _, rfl, ite2 (fun c1 => ?_) (fun c1 => ?_)⟩
      · refine ⟨_, _, rfl, rfl, _, rfl, ?_⟩
        refine ite2 (fun c2 => ?_) (fun c2 => ?_)
        · -- too long
          have h8 : ¬ (z.length : Int) ≤ 8 := by simpa using c2
          have e : decide (NameOk z) = false := decide_eq_false fun n => h8 (by have := n.2.1; omega)
          have k' := k H (Same.refl _)
          rw [show goodN (.str z) = false from e] at k'
          exact k'
        · refine ⟨_, rfl, z, rfl, fun D nD => lc_map walk_str (fun i => .bl (match z.cps[i]? with | some c => decide (c ∈ letters.cps.toList) | none => true)) nD (Nat.lt_of_le_of_lt hz (by decide)) (fun _ _ => trivial) ?_ ?_⟩
          · rintro i x H1 H2 hi s1 ⟨rfl, c, hci, rfl⟩ R hR
            refine ⟨rfl, _, rfl, c, _, rfl, rfl, ?_⟩
            have q := hR H2 (Same.refl _)
            rw [hci] at q
            exact q
          · intro H1 s1 hD
            refine ⟨D, (List.range z.cps.size).map fun i => (match z.cps[i]? with | some c => decide (c ∈ letters.cps.toList) | none => true), rfl, SqL.of (by rw [List.map_map]; exact hD), ?_⟩
            have h1 : (1 : Int) ≤ (z.length : Int) := of_decide_eq_true c1
            have h8 : (z.length : Int) ≤ 8 := by simpa using c2
            have e : ((List.range z.cps.size).map fun i => (match z.cps[i]? with | some c => decide (c ∈ letters.cps.toList) | none => true)).all id = goodN (.str z) := by
              show _ = decide (NameOk z)
              rw [Bool.eq_iff_iff, decide_eq_true_iff, List.all_map, List.all_eq_true]
              constructor
              · intro all
                refine ⟨by omega, by omega, fun c hc => ?_⟩
                obtain ⟨i, hi, rfl⟩ := List.getElem_of_mem hc
                have hi' : i < z.cps.size := by simpa using hi
                have := all i (List.mem_range.mpr hi')
                simpa [Array.getElem?_eq_getElem hi'] using this
              · rintro ⟨_, _, all⟩ i hi
                have hi' : i < z.cps.size := List.mem_range.mp hi
                have := all z.cps[i] (by simp)
                simpa [Array.getElem?_eq_getElem hi'] using this
            rw [e]
            exact k _ s1
      · have h1 : ¬ (1 : Int) ≤ (z.length : Int) := by simpa using c1
        have e : decide (NameOk z) = false := decide_eq_false fun n => h1 (by have := n.1; omega)
        have k' := k H (Same.refl _)
        rw [show goodN (.str z) = false from e] at k'
        exact ⟨_, rfl, iteT k'⟩
    | _ => exact iteT (k H (Same.refl _))
end
end N

set_option maxHeartbeats 4000000
namespace N
open PySem L2
/-! ### Kind(..): made, or refused -/
structure Six where
  n : V
  t : V
  m : V
  b : V
  i : V
  y : V
def Six.vs (z : Six) : List V := [z.n, z.t, z.m, z.b, z.i, z.y]
def isZ : V → Bool
  | .int z => decide (z = 0)
  | _ => false
/-- the first fault: 0 a name, 1 a number, 2 a kind that takes and makes nothing -/
def Six.fault (z : Six) : Option (Nat × V) :=
  if goodN z.n = false then some (0, z.n) else if goodO z.b = false then some (0, z.b) else if goodO z.i = false then some (0, z.i) else
  if goodI 6 z.t = false then some (1, z.t) else if goodI 6 z.m = false then some (1, z.m) else if goodI 999 z.y = false then some (1, z.y) else
  if (isZ z.t && isZ z.m) = true then some (2, z.n) else none
def kf (z : Six) : List (Str × V) := [("_name", z.n), ("_takes", z.t), ("_makes", z.m), ("_back", z.b), ("_mirror", z.i), ("_yarn", z.y)]
abbrev s_InvalidName___init__ : Stmt := inClass (top 9) 0
theorem sc_InvalidNameD_initD : FnScope ["self", "value"] ["self", "value"] (defScope s_InvalidName___init__) := ⟨rfl, rfl, rfl, by decide +kernel, rfl, by decide +kernel, by decide +kernel⟩
abbrev s_InvalidNumber___init__ : Stmt := inClass (top 10) 0
theorem sc_InvalidNumberD_initD : FnScope ["self", "value"] ["self", "value"] (defScope s_InvalidNumber___init__) := ⟨rfl, rfl, rfl, by decide +kernel, rfl, by decide +kernel, by decide +kernel⟩
abbrev s_InvalidKind___init__ : Stmt := inClass (top 11) 0
theorem sc_InvalidKindD_initD : FnScope ["self", "value"] ["self", "value"] (defScope s_InvalidKind___init__) := ⟨rfl, rfl, rfl, by decide +kernel, rfl, by decide +kernel, by decide +kernel⟩
/-- what the walk asks of the classes -/
structure KindT (K : PySem.W.Frag) (mg : Str → Option Value) (C : Addr) (Cs : Nat → Addr) : Prop where
  own : OwnC K C
  n0 : NoAttr K C "_name"
  n1 : NoAttr K C "_takes"
  n2 : NoAttr K C "_makes"
  n3 : NoAttr K C "_back"
  n4 : NoAttr K C "_mirror"
  n5 : NoAttr K C "_yarn"
  g : mg "Kind" = some (.ref C)
  e0 : ErrC K mg "InvalidName" "value" (Cs 0) s_InvalidName___init__ "InvalidName.__init__"
  e1 : ErrC K mg "InvalidNumber" "value" (Cs 1) s_InvalidNumber___init__ "InvalidNumber.__init__"
  e2 : ErrC K mg "InvalidKind" "value" (Cs 2) s_InvalidKind___init__ "InvalidKind.__init__"
theorem KindT.cl {K : PySem.W.Frag} {mg : Str → Option Value} {C : Addr} {Cs : Nat → Addr} (T : KindT K mg C Cs) : Cls K C := T.own.cl
def spKind (C : Addr) (Cs : Nat → Addr) : Sp := fun vs H Q E => ∃ (p dx : Addr) (z : Six), vs = .ref p :: z.vs ∧ H p = some (.ins C dx []) ∧ (∀ v ∈ z.vs, Odd H v) ∧
  (z.fault = none → ∀ H', H' p = some (.ins C dx (kf z)) → But p H H' → Q .non H') ∧ (∀ k v, z.fault = some (k, v) → ∀ d H', Same H H' → H' d = some (.xd [("value", v)]) → E (.ref (Cs k)) (some d) H')
theorem put_new {f : Str} {v : V} {fs : List (Str × V)} (h : (fs.map (·.1)).contains f = false) : putF f v fs = fs ++ [(f, v)] := putF_new fun q hq e => by
  have : (fs.map (·.1)).contains f = true := by
    rw [List.contains_iff_mem]
    exact e ▸ List.mem_map_of_mem hq
  rw [h] at this
  cases this
theorem next_of {D : Ends} {σ : St} {H : Hp} (h : D.nx σ H) : tNext D σ H := h
theorem seq_cut {a b : TS} {D : Ends} {σ : St} {H : Hp} (J : St → Hp → Prop) (h1 : ∀ Z : St → Hp → Prop, (∀ σ' H', J σ' H' → Z σ' H') → a { D with nx := Z } σ H) (h2 : ∀ σ' H', J σ' H' → b D σ' H') : tSeq a b D σ H :=
  h1 _ h2
theorem plen {f : Str} {v : V} : ∀ {fs : List (Str × V)} {n : Nat}, fs.length ≤ n → (putF f v fs).length ≤ n + 1
  | [], n, _ => by
    show 1 ≤ n + 1
    omega
  | (g, x) :: r, 0, h => by cases h
  | (g, x) :: r, n + 1, h => by
    unfold putF
    split
    · exact Nat.le_succ_of_le h
    · exact Nat.succ_le_succ (plen (Nat.le_of_succ_le_succ h))
section
variable {P : Program} {w : World} {K : PySem.W.Frag} {mg : Str → Option Value} {base : Heap} {C : Addr} {Cs : Nat → Addr}
theorem ok_e0 {k : Nat} (o : OexC K (Cs k)) (no : PySem.W.findIn K (.ref (Cs k)) "value" = some none) (fI : Addr) (fd : FuncData) (F : Fun K "__init__" "InvalidName.__init__" s_InvalidName___init__ fI fd) : FnOk P w K mg base CX0 1 fI fd ["self", "value"] (spErr "value" (Cs k)) ∧ Binds K fd ["self", "value"] [] := by
  refine ⟨F.ok sc_InvalidNameD_initD (fun vs H Q E h => ?_) (fun cdv A outer s H vs Q E hr h => ?_), F.binds (fun _ _ _ _ _ _ us hl => match us, hl with | [_, _], _ => rfl)⟩
  · obtain ⟨_, _, rfl, _⟩ := h
    rfl
  · obtain ⟨a, v, rfl, ha, k⟩ := h
    exact ⟨_, PSs.nox (pss_one (ps_ost (pv 0) (pv 1))), _, rfl, _, rfl, a, _, rfl, o, no, .inl ⟨ha, k⟩⟩
theorem ok_e1 {k : Nat} (o : OexC K (Cs k)) (no : PySem.W.findIn K (.ref (Cs k)) "value" = some none) (fI : Addr) (fd : FuncData) (F : Fun K "__init__" "InvalidNumber.__init__" s_InvalidNumber___init__ fI fd) : FnOk P w K mg base CX0 1 fI fd ["self", "value"] (spErr "value" (Cs k)) ∧ Binds K fd ["self", "value"] [] := by
  refine ⟨F.ok sc_InvalidNumberD_initD (fun vs H Q E h => ?_) (fun cdv A outer s H vs Q E hr h => ?_), F.binds (fun _ _ _ _ _ _ us hl => match us, hl with | [_, _], _ => rfl)⟩
  · obtain ⟨_, _, rfl, _⟩ := h
    rfl
  · obtain ⟨a, v, rfl, ha, k⟩ := h
    exact ⟨_, PSs.nox (pss_one (ps_ost (pv 0) (pv 1))), _, rfl, _, rfl, a, _, rfl, o, no, .inl ⟨ha, k⟩⟩
theorem ok_e2 {k : Nat} (o : OexC K (Cs k)) (no : PySem.W.findIn K (.ref (Cs k)) "value" = some none) (fI : Addr) (fd : FuncData) (F : Fun K "__init__" "InvalidKind.__init__" s_InvalidKind___init__ fI fd) : FnOk P w K mg base CX0 1 fI fd ["self", "value"] (spErr "value" (Cs k)) ∧ Binds K fd ["self", "value"] [] := by
  refine ⟨F.ok sc_InvalidKindD_initD (fun vs H Q E h => ?_) (fun cdv A outer s H vs Q E hr h => ?_), F.binds (fun _ _ _ _ _ _ us hl => match us, hl with | [_, _], _ => rfl)⟩
  · obtain ⟨_, _, rfl, _⟩ := h
    rfl
  · obtain ⟨a, v, rfl, ha, k⟩ := h
    exact ⟨_, PSs.nox (pss_one (ps_ost (pv 0) (pv 1))), _, rfl, _, rfl, a, _, rfl, o, no, .inl ⟨ha, k⟩⟩
abbrev s_Kind___init__ : Stmt := inClass (top 15) 0
theorem sc_KindD_initD : FnScope ["self", "name", "takes", "makes", "back", "mirror", "yarn", "twin", "loops"] ["self", "name", "takes", "makes", "back", "mirror", "yarn"] (defScope s_Kind___init__) := ⟨rfl, rfl, rfl, by decide +kernel, rfl, by decide +kernel, by decide +kernel⟩
theorem ok_kind {f : Addr} {fd : FuncData} {dvs : List V} {kws : List (Str × V)} (B : Blts mg) (G : Globs mg) (T : KindT K mg C Cs) (F : FunD K "__init__" "Kind.__init__" (defArgs s_Kind___init__) (defBody s_Kind___init__) (defScope s_Kind___init__) dvs kws f fd)
    (his_name : Has P w K mg base "is_name" 1 ["value"] spIsName) (his_count_to : Has P w K mg base "is_count_to" 3 ["value", "most"] spCountTo) : FnOk P w K mg base (L2.CX P w) 4 f fd ["self", "name", "takes", "makes", "back", "mirror", "yarn"] (spKind C Cs) := by
  obtain ⟨_, g_MOST_LOOPS⟩ := G.loops
  obtain ⟨_, g_MOST_YARN⟩ := G.yarn
  refine F.ok sc_KindD_initD (fun vs H Q E h => ?_) (fun cdv A outer s H vs Q E hr h => ?_)
  · obtain ⟨p, dx, z, rfl, _⟩ := h
    rfl
  · obtain ⟨p, dx, z, rfl, hp, odd, k, ke⟩ := h
    have o1 : Odd H z.n := odd _ (by simp [Six.vs])
    have o2 : Odd H z.t := odd _ (by simp [Six.vs])
    have o3 : Odd H z.m := odd _ (by simp [Six.vs])
    have o4 : Odd H z.b := odd _ (by simp [Six.vs])
    have o5 : Odd H z.i := odd _ (by simp [Six.vs])
    have o6 : Odd H z.y := odd _ (by simp [Six.vs])
    refine ⟨_, (pss_cons (ps_if (pt_not (pt_val (pe_has his_name (hr.mono (by decide)) (pa_cons (pv 1) pa_nil)))) (pss_one (ps_raiseE rfl T.e0 (ok_e0 T.e0.o T.e0.no) (hr.mono (by decide)) (takes_of rfl rfl rfl rfl) (by exact (pa_cons (pv 1) pa_nil))))
        pss_nil)
      (pss_cons (ps_for (passes_of rfl) rfl (pi_tup (pe_tup (pa_cons (pv 4) (pa_cons (pv 5) pa_nil)))) (pg_name (i := 7) sc_KindD_initD.nd rfl (Or.inl rfl))
        (pss_one (ps_if (PW.pt (pw_and (pt_cmpR op_notN (pv 7) pe_non (by first | exact nomark _ | rfl)) (pw_and1 (pt_not (pt_val (pe_has his_name (hr.mono (by decide)) (pa_cons (pv 7) pa_nil))))))) (pss_one (ps_raiseE rfl T.e0 (ok_e0 T.e0.o T.e0.no) (hr.mono (by decide)) (takes_of rfl rfl rfl rfl) (by exact (pa_cons (pv 7) pa_nil))))
          pss_nil)))
      (pss_cons (ps_for (passes_of rfl) rfl (pi_tup (pe_tup (pa_cons (pv 2) (pa_cons (pv 3) pa_nil)))) (pg_name (i := 8) sc_KindD_initD.nd rfl (Or.inl rfl))
        (pss_one (ps_if (pt_not (pt_val (pe_has his_count_to (hr.mono (by decide)) (pa_cons (pv 8) (pa_cons (pe_glob (v := .int 6) rfl g_MOST_LOOPS ⟨_, rfl⟩) pa_nil))))) (pss_one (ps_raiseE rfl T.e1 (ok_e1 T.e1.o T.e1.no) (hr.mono (by decide)) (takes_of rfl rfl rfl rfl) (by exact (pa_cons (pv 8) pa_nil))))
          pss_nil)))
      (pss_cons (ps_if (pt_not (pt_val (pe_has his_count_to (hr.mono (by decide)) (pa_cons (pv 6) (pa_cons (pe_glob (v := .int 999) rfl g_MOST_YARN ⟨_, rfl⟩) pa_nil))))) (pss_one (ps_raiseE rfl T.e1 (ok_e1 T.e1.o T.e1.no) (hr.mono (by decide)) (takes_of rfl rfl rfl rfl) (by exact (pa_cons (pv 6) pa_nil))))
        pss_nil)
      (pss_cons (ps_if (PW.pt (pw_and (pt_cmpR op_eq (pv 2) pe_int (by first | exact nomark _ | rfl)) (pw_and1 (pt_cmpR op_eq (pv 3) pe_int (by first | exact nomark _ | rfl))))) (pss_one (ps_raiseE rfl T.e2 (ok_e2 T.e2.o T.e2.no) (hr.mono (by decide)) (takes_of rfl rfl rfl rfl) (by exact (pa_cons (pv 1) pa_nil))))
        pss_nil)
      (pss_cons (ps_fld (pv 0) (pv 1) rfl)
      (pss_cons (ps_fld (pv 0) (pv 2) rfl)
      (pss_cons (ps_fld (pv 0) (pv 3) rfl)
      (pss_cons (ps_fld (pv 0) (pv 4) rfl)
      (pss_cons (ps_fld (pv 0) (pv 5) rfl)
      (pss_one (ps_fld (pv 0) (pv 6) rfl)))))))))))), ?_⟩
    refine ⟨_, rfl, z.n, rfl, o1, fun H1 s1 => ⟨_, rfl, ite2 (fun c => ?_) (fun c => ?_)⟩⟩
    · have g : goodN z.n = false := by simpa using c
      exact ⟨_, rfl, _, rfl, fun d hd => ke 0 z.n (by simp [Six.fault, g]) d _ (s1.trans (Same.new hd)) upd_same⟩
    have g1 : goodN z.n = true := by simpa using c
    refine ⟨_, rfl, _, rfl, (by show 2 ≤ sizeLine; decide), fun t nt => ?_⟩
    refine ⟨t, rfl, ⟨_, SqT.of upd_same⟩, for_tup (K := K) (a := t) (xs := [z.b, z.i]) (fun i σ H' => ∃ v7 : Option V, σ = [some (.ref p), some z.n, some z.t, some z.m, some z.b, some z.i, some z.y, v7, none] ∧ Same (upd H1 t (.tup [z.b, z.i])) H' ∧ (1 ≤ i → goodO z.b = true) ∧ (2 ≤ i → goodO z.i = true))
      ⟨none, rfl, Same.refl _, by omega, by omega⟩ (fun i σ H' _ ⟨_, _, e, _⟩ => SqT.of (e _ _ upd_same)) ?_ ?_⟩
    · rintro i x σ H2 hi ⟨v7, rfl, e2, gb, gi⟩
      have s2 : Same H H2 := s1.trans ((Same.new nt).trans e2)
      have hx : (i = 0 ∧ x = z.b) ∨ (i = 1 ∧ x = z.i) := by
        match i, hi with
        | 0, hi => exact .inl ⟨rfl, (Option.some.inj hi).symm⟩
        | 1, hi => exact .inr ⟨rfl, (Option.some.inj hi).symm⟩
        | n + 2, hi => simp at hi
      have ox : Odd H2 x := by
        rcases hx with ⟨_, rfl⟩ | ⟨_, rfl⟩
        · exact o4.same s2
        · exact o5.same s2
      -- good: on to the next
      have good : goodO x = true → ∀ H3, Same H2 H3 → ∃ v7' : Option V, [some (V.ref p), some z.n, some z.t, some z.m, some z.b, some z.i, some z.y, some x, none] = [some (V.ref p), some z.n, some z.t, some z.m, some z.b, some z.i, some z.y, v7', none] ∧ Same (upd H1 t (.tup [z.b, z.i])) H3 ∧ (1 ≤ i + 1 → goodO z.b = true) ∧ (2 ≤ i + 1 → goodO z.i = true) := fun gx H3 s3 => by
        refine ⟨some x, rfl, e2.trans s3, fun _ => ?_, fun hi2 => ?_⟩
        · rcases hx with ⟨_, rfl⟩ | ⟨h1, rfl⟩
          · exact gx
          · exact gb (by omega)
        · rcases hx with ⟨h1, rfl⟩ | ⟨h1, rfl⟩
          · omega
          · exact gx
      refine ⟨_, rfl, rfl, _, rfl, ite2 (fun c1 => ?_) (fun c1 => ?_)⟩
      · refine ⟨_, rfl, x, rfl, ox, fun H3 s3 => ⟨_, rfl, ite2 (fun c2 => ?_) (fun c2 => ?_)⟩⟩
        · have g : goodN x = false := by simpa using c2
          have g' : goodO x = false := by
            cases x with
            | non => simp at c1
            | _ => exact g
          refine ⟨_, rfl, _, rfl, fun d hd => ke 0 x ?_ d _ ((s2.trans s3).trans (Same.new hd)) upd_same⟩
          rcases hx with ⟨_, rfl⟩ | ⟨h1, rfl⟩
          · simp [Six.fault, g1, g']
          · simp [Six.fault, g1, gb (by omega), g']
        · have g : goodN x = true := by simpa using c2
          exact good (by cases x <;> first | exact g | rfl) H3 s3
      · refine good ?_ H2 (Same.refl _)
        have e : x = .non := by simpa using c1
        rw [e]
        rfl
    · rintro σ H2 ⟨v7, rfl, e2, gb, gi⟩
      have g2 := gb (by show 1 ≤ 2; decide)
      have g3 := gi (by show 2 ≤ 2; decide)
      have s2 : Same H H2 := s1.trans ((Same.new nt).trans e2)
      refine ⟨_, rfl, _, rfl, (by show 2 ≤ sizeLine; decide), fun t2 nt2 => ⟨t2, rfl, ⟨_, SqT.of upd_same⟩, for_tup (K := K) (a := t2) (xs := [z.t, z.m]) (fun i σ H' => ∃ v8 : Option V, σ = [some (.ref p), some z.n, some z.t, some z.m, some z.b, some z.i, some z.y, v7, v8] ∧ Same (upd H2 t2 (.tup [z.t, z.m])) H' ∧ (1 ≤ i → goodI 6 z.t = true) ∧ (2 ≤ i → goodI 6 z.m = true))
        ⟨none, rfl, Same.refl _, by omega, by omega⟩ (fun i σ H' _ ⟨_, _, e, _⟩ => SqT.of (e _ _ upd_same)) ?_ ?_⟩⟩
      · rintro i x σ H3 hi ⟨v8, rfl, e3, gt, gm⟩
        have s3 : Same H H3 := s2.trans ((Same.new nt2).trans e3)
        have hx : (i = 0 ∧ x = z.t) ∨ (i = 1 ∧ x = z.m) := by
          match i, hi with
          | 0, hi => exact .inl ⟨rfl, (Option.some.inj hi).symm⟩
          | 1, hi => exact .inr ⟨rfl, (Option.some.inj hi).symm⟩
          | n + 2, hi => simp at hi
        have ox : Odd H3 x := by
          rcases hx with ⟨_, rfl⟩ | ⟨_, rfl⟩
          · exact o2.same s3
          · exact o3.same s3
        refine ⟨_, rfl, x, 6, rfl, ox, _, rfl, ite2 (fun c2 => ?_) (fun c2 => ?_)⟩
        · have g : goodI 6 x = false := by simpa using c2
          refine ⟨_, rfl, _, rfl, fun d hd => ke 1 x ?_ d _ (s3.trans (Same.new hd)) upd_same⟩
          rcases hx with ⟨_, rfl⟩ | ⟨h1, rfl⟩
          · simp [Six.fault, g1, g2, g3, g]
          · simp [Six.fault, g1, g2, g3, gt (by omega), g]
        · have g : goodI 6 x = true := by simpa using c2
          refine ⟨some x, rfl, e3, fun _ => ?_, fun hi2 => ?_⟩
          · rcases hx with ⟨_, rfl⟩ | ⟨h1, rfl⟩
            · exact g
            · exact gt (by omega)
          · rcases hx with ⟨h1, rfl⟩ | ⟨h1, rfl⟩
            · omega
            · exact g
      · rintro σ H3 ⟨v8, rfl, e3, gt, gm⟩
        have g4 := gt (by show 1 ≤ 2; decide)
        have g5 := gm (by show 2 ≤ 2; decide)
        have s3 : Same H H3 := s2.trans ((Same.new nt2).trans e3)
        refine ⟨_, rfl, z.y, 999, rfl, o6.same s3, _, rfl, ite2 (fun c2 => ?_) (fun c2 => ?_)⟩
        · have g : goodI 999 z.y = false := by simpa using c2
          exact ⟨_, rfl, _, rfl, fun d hd => ke 1 z.y (by simp [Six.fault, g1, g2, g3, g4, g5, g]) d _ (s3.trans (Same.new hd)) upd_same⟩
        have g6 : goodI 999 z.y = true := by simpa using c2
        obtain ⟨t0, et⟩ : ∃ t0, z.t = .int t0 := by cases q : z.t <;> rw [q] at g4 <;> first | exact ⟨_, rfl⟩ | cases g4
        obtain ⟨m0, em⟩ : ∃ m0, z.m = .int m0 := by cases q : z.m <;> rw [q] at g5 <;> first | exact ⟨_, rfl⟩ | cases g5
        refine next_of ?_
        dsimp only
        refine seq_cut (fun σ' H' => σ' = [some (.ref p), some z.n, some z.t, some z.m, some z.b, some z.i, some z.y, v7, v8] ∧ H' = H3 ∧ z.fault = none) (fun Z hZ => ?_) ?_
        · have ft : isZ z.t = decide (t0 = 0) := by rw [et]; rfl
          have fm : isZ z.m = decide (m0 = 0) := by rw [em]; rfl
          refine ⟨_, rfl, (by rw [et]; rfl), _, rfl, ite2 (fun c3 => ⟨_, rfl, (by rw [em]; rfl), _, rfl, ite2 (fun c4 => ?_) (fun c4 => ?_)⟩) (fun c3 => ?_)⟩
          · have e1 : t0 = 0 := by simpa [et] using c3
            have e2 : m0 = 0 := by simpa [em] using c4
            refine ⟨_, rfl, _, rfl, fun d hd => ke 2 z.n (by simp [Six.fault, g1, g2, g3, g4, g5, g6, ft, fm, e1, e2]) d _ (s3.trans (Same.new hd)) upd_same⟩
          · have e2 : ¬ m0 = 0 := by simpa [em] using c4
            exact hZ _ _ ⟨rfl, rfl, by simp [Six.fault, g1, g2, g3, g4, g5, g6, ft, fm, e2]⟩
          · have e1 : ¬ t0 = 0 := by simpa [et] using c3
            exact hZ _ _ ⟨rfl, rfl, by simp [Six.fault, g1, g2, g3, g4, g5, g6, ft, fm, e1]⟩
        · rintro _ _ ⟨rfl, rfl, fn⟩
          have hp3 := s3 _ _ hp
          refine ⟨_, rfl, _, rfl, p, C, dx, [], rfl, hp3, T.cl, T.n0, by decide, ?_⟩
          refine ⟨_, rfl, _, rfl, p, C, dx, _, rfl, upd_same, T.cl, T.n1, Nat.lt_of_le_of_lt (plen (Nat.le_refl 0)) (by decide), ?_⟩
          refine ⟨_, rfl, _, rfl, p, C, dx, _, rfl, upd_same, T.cl, T.n2, Nat.lt_of_le_of_lt (plen (plen (Nat.le_refl 0))) (by decide), ?_⟩
          refine ⟨_, rfl, _, rfl, p, C, dx, _, rfl, upd_same, T.cl, T.n3, Nat.lt_of_le_of_lt (plen (plen (plen (Nat.le_refl 0)))) (by decide), ?_⟩
          refine ⟨_, rfl, _, rfl, p, C, dx, _, rfl, upd_same, T.cl, T.n4, Nat.lt_of_le_of_lt (plen (plen (plen (plen (Nat.le_refl 0))))) (by decide), ?_⟩
          refine ⟨_, rfl, _, rfl, p, C, dx, _, rfl, upd_same, T.cl, T.n5, Nat.lt_of_le_of_lt (plen (plen (plen (plen (plen (Nat.le_refl 0)))))) (by decide), ?_⟩
          refine k fn _ ?_ ((((((But.of s3).trans But.upd).trans But.upd).trans But.upd).trans But.upd).trans But.upd |>.trans But.upd)
          refine upd_same.trans ?_
          rw [put_new (fs := []) rfl, List.nil_append, put_new (fs := [_]) rfl, put_new rfl, put_new rfl, put_new rfl, put_new rfl]
          rfl
end
end N

set_option maxHeartbeats 4000000
namespace L2
open PySem PySem.Spec PyProof.Rows
/-- a class that is made, its __init__ may raise -/
structure HasX (P : Program) (w : World) (K : PySem.W.Frag) (mg : Str → Option Value) (base : Heap) (x : Str) (k : Nat) (ps : List Str) (sp : Sp) : Prop where
  ex : ∃ (f : Addr) (fd : FuncData), mg x = some (.ref f) ∧ PySem.W.keepIn K (.ref f) = true ∧ Binds K fd ps [] ∧ FnOk P w K mg base (L2.CX P w) k f fd ps sp
structure MakX (P : Program) (w : World) (K : PySem.W.Frag) (mg : Str → Option Value) (base : Heap) (x : Str) (C : Addr) (k n : Nat) (ps ks : List Str) (sp : Sp) (gV : List V → List V → List V) : Prop where
  ex : ∃ (f : Addr) (fd : FuncData) (g : List Value → List Value → List Value), mg x = some (.ref C) ∧ Mk K C f ∧ KBn K fd ps (n + 1) ks g gV ∧ FnOk P w K mg base (L2.CX P w) k f fd ps sp
structure MakD (P : Program) (w : World) (K : PySem.W.Frag) (mg : Str → Option Value) (base : Heap) (x : Str) (C : Addr) (k : Nat) (ps : List Str) (sp : Sp) (dvs : List V) : Prop where
  ex : ∃ (f : Addr) (fd : FuncData) (ds : List Value), mg x = some (.ref C) ∧ Mk K C f ∧ Binds K fd ps ds ∧ Vals dvs ds ∧ FnOk P w K mg base (L2.CX P w) k f fd ps sp
section
variable {X : Cx} {x : Str} {C : Addr} {k n : Nat} {ps ks : List Str} {sp : Sp} {gV : List V → List V → List V} {dvs : List V} {p pos : Pos} {e : Expr} {es : List Expr} {kws : List Keyword} {t tk : TA} {E : XK}
/-- f(e, ..), f may raise -/
theorem pe_hasX (h : HasX X.prog X.w X.K X.mg X.base x k ps sp) (hr : Room k X.A) (hx : Passes (L2.CX X.prog X.w) X E) (ha : PA X (e :: es) t) (hg : Gl X x := by rfl) (hdb : (x == ("__debug__" : Str)) = false := by decide)
    (he : starEach (e :: es) X.env = (false, eval e X.env) :: starEach es X.env := by rfl) (hpl : (backTo pos (starEach es X.env)).any (·.1) = false := by rfl) :
    PE X (.Call (.Name x p) (e :: es) [] pos) (tCall sp [] E t) := by
  obtain ⟨f, fd, hm, hk, hb, F⟩ := h.ex
  exact pe_call F hr hg hm hk hb .nil hx ha hdb he hpl
theorem pe_makX (h : MakX X.prog X.w X.K X.mg X.base x C k n ps ks sp gV) (hr : Room (k + 1) X.A) (hx : Passes (L2.CX X.prog X.w) X E) (ha : PA X (e :: es) t) (hkw : PK X kws tk) (hg : Gl X x := by rfl) (hdb : (x == ("__debug__" : Str)) = false := by decide)
    (hall : (backToKw pos (keywordEach kws X.env)).all (·.1.isSome) = true := by rfl) (hks : (backToKw pos (keywordEach kws X.env)).filterMap (·.1) = ks := by rfl)
    (he : starEach (e :: es) X.env = (false, eval e X.env) :: starEach es X.env := by rfl) (hpl : ((backTo pos (starEach (e :: es) X.env)).any (·.1) || (backToKw pos (keywordEach kws X.env)).any (·.1.isNone)) = false := by rfl) :
    PE X (.Call (.Name x p) (e :: es) kws pos) (tMakeK C n ks.length sp gV E t tk) := by
  obtain ⟨f, fd, g, hm, M, hb, F⟩ := h.ex
  exact pe_makeK M F hr hg hm hb hx ha hkw hall hks hdb he hpl
theorem pe_makX0 (h : MakX X.prog X.w X.K X.mg X.base x C k 0 ps ks sp gV) (hr : Room (k + 1) X.A) (hx : Passes (L2.CX X.prog X.w) X E) (hkw : PK X kws tk) (hg : Gl X x := by rfl) (hdb : (x == ("__debug__" : Str)) = false := by decide)
    (hall : (backToKw pos (keywordEach kws X.env)).all (·.1.isSome) = true := by rfl) (hks : (backToKw pos (keywordEach kws X.env)).filterMap (·.1) = ks := by rfl)
    (hpl : ((backTo pos (starEach [] X.env)).any (·.1) || (backToKw pos (keywordEach kws X.env)).any (·.1.isNone)) = false := by rfl) :
    PE X (.Call (.Name x p) [] kws pos) (tMakeK C 0 ks.length sp gV E tNil tk) := by
  obtain ⟨f, fd, g, hm, M, hb, F⟩ := h.ex
  exact pe_makeK0 M F hr hg hm hb hx hkw hall hks hdb hpl
theorem pe_makD (h : MakD X.prog X.w X.K X.mg X.base x C k ps sp dvs) (hr : Room (k + 1) X.A) (hx : Passes (L2.CX X.prog X.w) X E) (ha : PA X (e :: es) t) (hg : Gl X x := by rfl) (hdb : (x == ("__debug__" : Str)) = false := by decide)
    (he : starEach (e :: es) X.env = (false, eval e X.env) :: starEach es X.env := by rfl) (hpl : (backTo pos (starEach es X.env)).any (·.1) = false := by rfl) :
    PE X (.Call (.Name x p) (e :: es) [] pos) (tMake C sp dvs E t) := by
  obtain ⟨f, fd, ds, hm, M, hb, hd, F⟩ := h.ex
  exact pe_make M F hr hg hm hb hd hx ha hdb he hpl
end
end L2
namespace N
open PySem L2
/-! ### a kind, asked -/
def Row.six (r : Row) : Six := ⟨.str r.name, .int r.takes, .int r.makes, ov r.back, ov r.mirror, .int r.yarn⟩
def KindAt (C : Addr) (H : Hp) (a : Addr) (r : Row) : Prop := ∃ dx, H a = some (.ins C dx (kf r.six))
theorem KindAt.but {C : Addr} {H H' : Hp} {a p : Addr} {r : Row} (hp : Pot H p) (h : KindAt C H a r) (e : But p H H') : KindAt C H' a r := by
  obtain ⟨dx, h⟩ := h
  refine ⟨dx, e _ _ h fun z => ?_⟩
  obtain ⟨x, y, q, _⟩ := hp
  subst z
  rw [q] at h
  cases h
theorem KindAt.same {C : Addr} {H H' : Hp} {a : Addr} {r : Row} (h : KindAt C H a r) (e : Same H H') : KindAt C H' a r := let ⟨dx, h⟩ := h; ⟨dx, e _ _ h⟩
theorem NameOk.sign {s : Str} (h : NameOk s) : (s.cps.all fun c => decide (c < 0x110000)) = true := by
  rw [Array.all_eq_true_iff_forall_mem]
  intro c hc
  have all : ∀ c ∈ letters.cps.toList, decide (c < 0x110000) = true := by decide +kernel
  exact all c (h.2.2 c (Array.mem_toList_iff.mpr hc))
theorem small_log {i : Int} (h0 : 0 ≤ i) (h1 : i ≤ 999) : i.natAbs.log2 < 1920 := by
  have h : i.natAbs < 2 ^ 10 := by omega
  by_cases z : i.natAbs = 0
  · rw [z]; decide
  · exact Nat.lt_of_lt_of_le ((Nat.log2_lt z).mpr h) (by decide)
theorem Row.odd {r : Row} (ok : KindOk r) (H : Hp) : ∀ v ∈ r.six.vs, Odd H v := by
  have nm : ∀ s, NameOk s → Odd H (.str s) := fun s h => .str s (by have := h.2.1; omega) h.sign
  have op : ∀ o : Option Str, (∀ x, o = some x → NameOk x) → Odd H (ov o) := fun o h => by
    cases o with
    | none => exact .non
    | some s => exact nm s (h s rfl)
  intro v hv
  simp only [Row.six, Six.vs, List.mem_cons, List.mem_nil_iff, or_false] at hv
  rcases hv with rfl | rfl | rfl | rfl | rfl | rfl
  · exact nm _ ok.name
  · exact .int _ (small_log ok.takes.1 (by have := ok.takes.2; omega))
  · exact .int _ (small_log ok.makes.1 (by have := ok.makes.2; omega))
  · exact op _ ok.back
  · exact op _ ok.mirror
  · exact .int _ (small_log ok.yarn.1 ok.yarn.2)
theorem good_ov {o : Option Str} (h : ∀ x, o = some x → NameOk x) : goodO (ov o) = true := by
  cases o with
  | none => rfl
  | some s => exact decide_eq_true (h s rfl)
theorem Row.sound {r : Row} (ok : KindOk r) : r.six.fault = none := by
  have g1 : goodN r.six.n = true := decide_eq_true ok.name
  have g2 : goodO r.six.b = true := good_ov ok.back
  have g3 : goodO r.six.i = true := good_ov ok.mirror
  have g4 : goodI 6 r.six.t = true := by show (decide _ && decide _) = true; rw [decide_eq_true ok.takes.1, decide_eq_true ok.takes.2]; rfl
  have g5 : goodI 6 r.six.m = true := by show (decide _ && decide _) = true; rw [decide_eq_true ok.makes.1, decide_eq_true ok.makes.2]; rfl
  have g6 : goodI 999 r.six.y = true := by show (decide _ && decide _) = true; rw [decide_eq_true ok.yarn.1, decide_eq_true ok.yarn.2]; rfl
  have g7 : (isZ r.six.t && isZ r.six.m) = false := by
    show (decide (r.takes = 0) && decide (r.makes = 0)) = false
    have := ok.some_
    by_cases h : r.takes = 0
    · have h2 : ¬ r.makes = 0 := fun z => this ⟨h, z⟩
      simp [h2]
    · simp [h]
  simp [Six.fault, g1, g2, g3, g4, g5, g6, g7]
def spGetK (C : Addr) (g : Row → V) : Sp := fun vs H Q _ => ∃ (a : Addr) (r : Row), vs = [.ref a] ∧ KindAt C H a r ∧ Q (g r) H
abbrev PK' (P : Program) (w : World) (K : PySem.W.Frag) (mg : Str → Option Value) (base : Heap) (C : Addr) (x : Str) (g : Row → V) : Prop := HasP P w K mg base C x 1 (spGetK C g)
def rowV (r : Row) : List V := [.str r.name, .int r.takes, .int r.makes, ov r.back, ov r.mirror, .int r.yarn]
def od : Option Str → PyData
  | none => .none
  | some s => .str s
def rowD (r : Row) : List PyData := [.str r.name, .int r.takes, .int r.makes, od r.back, od r.mirror, .int r.yarn]
theorem dp_ov {K : PySem.W.Frag} {H : Hp} : ∀ o : Option Str, Dp K H (ov o) (od o)
  | none => .non
  | some s => .str s
theorem dp_row {K : PySem.W.Frag} {H : Hp} (r : Row) : DpAll K H (rowV r) (rowD r) := .cons (.str _) (.cons (.int _) (.cons (.int _) (.cons (dp_ov _) (.cons (dp_ov _) (.cons (.int _) .nil)))))
def spRowOf (C : Addr) : Sp := fun vs H Q _ => ∃ (a : Addr) (r : Row), vs = [.ref a] ∧ KindAt C H a r ∧ ∀ t, H t = none → Q (.ref t) (upd H t (.tup (rowV r)))
theorem shaped_row {r : Row} (h : KindOk r) : SeqAt.shaped (.tuple (rowD r)) = true := by
  have n : PyData.strOk r.name = true := h.name.sign
  have o : ∀ o : Option Str, (∀ x, o = some x → NameOk x) → PyData.canLay0 (od o) = true ∧ PyData.depth (od o) = 0 := fun o ho => by
    cases o with
    | none => exact ⟨rfl, rfl⟩
    | some s => exact ⟨(ho s rfl).sign, rfl⟩
  obtain ⟨b1, b2⟩ := o _ h.back
  obtain ⟨m1, m2⟩ := o _ h.mirror
  simp [SeqAt.shaped, rowD, PyData.canLay0, PyData.canLayAll0, PyData.depth, PyData.depthAll, n, b1, b2, m1, m2]
def spEqK (K : PySem.W.Frag) (C : Addr) : Sp := fun vs H Q _ => ∃ (a : Addr) (o : V) (r : Row), vs = [.ref a, o] ∧ KindAt C H a r ∧ KindOk r ∧
  ((∃ b u, o = .ref b ∧ KindAt C H b u ∧ KindOk u ∧ ∀ H', Same H H' → Q (.bl (PyData.eqv (.tuple (rowD r)) (.tuple (rowD u)))) H') ∨ ∃ T, TyX K H o (.type T) ∧ PySem.W.subIn K (.type T) (.ref C) = some false ∧ Q (.bl false) H)
section
variable {P : Program} {w : World} {K : PySem.W.Frag} {mg : Str → Option Value} {base : Heap} {C : Addr} {Cs : Nat → Addr}
abbrev s_Kind_name : Stmt := inClass (top 15) 1
theorem sc_Kind_name : FnScope ["self"] ["self"] (defScope s_Kind_name) := ⟨rfl, rfl, rfl, by decide +kernel, rfl, by decide +kernel, by decide +kernel⟩
theorem p_name (T : KindT K mg C Cs) (F : PropAt K C "name" "Kind.name" s_Kind_name) : PK' P w K mg base C "name" fun r => .str r.name := by
  refine hasP_of F sc_Kind_name (fun _ _ _ _ _ _ us hl => match us, hl with | [_], _ => rfl) (fun vs H Q E h => ?_) (fun f cdv A outer s H vs Q E hr h => ?_)
  · obtain ⟨_, _, rfl, _⟩ := h
    rfl
  · obtain ⟨a, r, rfl, ⟨dx, ha⟩, q⟩ := h
    refine ⟨_, (pss_one (ps_ret (pe_fld (pv 0) rfl))), ?_⟩
    exact ⟨_, rfl, a, C, dx, _, _, rfl, ha, T.cl, T.n0, rfl, q⟩
abbrev s_Kind_takes : Stmt := inClass (top 15) 3
theorem sc_Kind_takes : FnScope ["self"] ["self"] (defScope s_Kind_takes) := ⟨rfl, rfl, rfl, by decide +kernel, rfl, by decide +kernel, by decide +kernel⟩
theorem p_takes (T : KindT K mg C Cs) (F : PropAt K C "takes" "Kind.takes" s_Kind_takes) : PK' P w K mg base C "takes" fun r => .int r.takes := by
  refine hasP_of F sc_Kind_takes (fun _ _ _ _ _ _ us hl => match us, hl with | [_], _ => rfl) (fun vs H Q E h => ?_) (fun f cdv A outer s H vs Q E hr h => ?_)
  · obtain ⟨_, _, rfl, _⟩ := h
    rfl
  · obtain ⟨a, r, rfl, ⟨dx, ha⟩, q⟩ := h
    refine ⟨_, (pss_one (ps_ret (pe_fld (pv 0) rfl))), ?_⟩
    exact ⟨_, rfl, a, C, dx, _, _, rfl, ha, T.cl, T.n1, rfl, q⟩
abbrev s_Kind_makes : Stmt := inClass (top 15) 4
theorem sc_Kind_makes : FnScope ["self"] ["self"] (defScope s_Kind_makes) := ⟨rfl, rfl, rfl, by decide +kernel, rfl, by decide +kernel, by decide +kernel⟩
theorem p_makes (T : KindT K mg C Cs) (F : PropAt K C "makes" "Kind.makes" s_Kind_makes) : PK' P w K mg base C "makes" fun r => .int r.makes := by
  refine hasP_of F sc_Kind_makes (fun _ _ _ _ _ _ us hl => match us, hl with | [_], _ => rfl) (fun vs H Q E h => ?_) (fun f cdv A outer s H vs Q E hr h => ?_)
  · obtain ⟨_, _, rfl, _⟩ := h
    rfl
  · obtain ⟨a, r, rfl, ⟨dx, ha⟩, q⟩ := h
    refine ⟨_, (pss_one (ps_ret (pe_fld (pv 0) rfl))), ?_⟩
    exact ⟨_, rfl, a, C, dx, _, _, rfl, ha, T.cl, T.n2, rfl, q⟩
abbrev s_Kind_back : Stmt := inClass (top 15) 5
theorem sc_Kind_back : FnScope ["self"] ["self"] (defScope s_Kind_back) := ⟨rfl, rfl, rfl, by decide +kernel, rfl, by decide +kernel, by decide +kernel⟩
theorem p_back (T : KindT K mg C Cs) (F : PropAt K C "back" "Kind.back" s_Kind_back) : PK' P w K mg base C "back" fun r => ov r.back := by
  refine hasP_of F sc_Kind_back (fun _ _ _ _ _ _ us hl => match us, hl with | [_], _ => rfl) (fun vs H Q E h => ?_) (fun f cdv A outer s H vs Q E hr h => ?_)
  · obtain ⟨_, _, rfl, _⟩ := h
    rfl
  · obtain ⟨a, r, rfl, ⟨dx, ha⟩, q⟩ := h
    refine ⟨_, (pss_one (ps_ret (pe_fld (pv 0) rfl))), ?_⟩
    exact ⟨_, rfl, a, C, dx, _, _, rfl, ha, T.cl, T.n3, rfl, q⟩
abbrev s_Kind_mirror : Stmt := inClass (top 15) 6
theorem sc_Kind_mirror : FnScope ["self"] ["self"] (defScope s_Kind_mirror) := ⟨rfl, rfl, rfl, by decide +kernel, rfl, by decide +kernel, by decide +kernel⟩
theorem p_mirror (T : KindT K mg C Cs) (F : PropAt K C "mirror" "Kind.mirror" s_Kind_mirror) : PK' P w K mg base C "mirror" fun r => ov r.mirror := by
  refine hasP_of F sc_Kind_mirror (fun _ _ _ _ _ _ us hl => match us, hl with | [_], _ => rfl) (fun vs H Q E h => ?_) (fun f cdv A outer s H vs Q E hr h => ?_)
  · obtain ⟨_, _, rfl, _⟩ := h
    rfl
  · obtain ⟨a, r, rfl, ⟨dx, ha⟩, q⟩ := h
    refine ⟨_, (pss_one (ps_ret (pe_fld (pv 0) rfl))), ?_⟩
    exact ⟨_, rfl, a, C, dx, _, _, rfl, ha, T.cl, T.n4, rfl, q⟩
abbrev s_Kind_yarn : Stmt := inClass (top 15) 7
theorem sc_Kind_yarn : FnScope ["self"] ["self"] (defScope s_Kind_yarn) := ⟨rfl, rfl, rfl, by decide +kernel, rfl, by decide +kernel, by decide +kernel⟩
theorem p_yarn (T : KindT K mg C Cs) (F : PropAt K C "yarn" "Kind.yarn" s_Kind_yarn) : PK' P w K mg base C "yarn" fun r => .int r.yarn := by
  refine hasP_of F sc_Kind_yarn (fun _ _ _ _ _ _ us hl => match us, hl with | [_], _ => rfl) (fun vs H Q E h => ?_) (fun f cdv A outer s H vs Q E hr h => ?_)
  · obtain ⟨_, _, rfl, _⟩ := h
    rfl
  · obtain ⟨a, r, rfl, ⟨dx, ha⟩, q⟩ := h
    refine ⟨_, (pss_one (ps_ret (pe_fld (pv 0) rfl))), ?_⟩
    exact ⟨_, rfl, a, C, dx, _, _, rfl, ha, T.cl, T.n5, rfl, q⟩
abbrev s__numbers_and_names : Stmt := top 16
theorem sc__numbers_and_names : FnScope ["kind"] ["kind"] (defScope s__numbers_and_names) := ⟨rfl, rfl, rfl, by decide +kernel, rfl, by decide +kernel, by decide +kernel⟩
theorem h_rows (T : KindT K mg C Cs) (F : FunAt K mg "_numbers_and_names" "_numbers_and_names" s__numbers_and_names) (p1 : PK' P w K mg base C "name" fun r => .str r.name) (p2 : PK' P w K mg base C "takes" fun r => .int r.takes) (p3 : PK' P w K mg base C "makes" fun r => .int r.makes) (p4 : PK' P w K mg base C "back" fun r => ov r.back)
    (p5 : PK' P w K mg base C "mirror" fun r => ov r.mirror) (p6 : PK' P w K mg base C "yarn" fun r => .int r.yarn) : Has P w K mg base "_numbers_and_names" 3 ["kind"] (spRowOf C) := by
  refine has_of F sc__numbers_and_names (fun _ _ _ _ _ _ us hl => match us, hl with | [_], _ => rfl) (fun vs H Q E h => ?_) (fun f cdv A outer s H vs Q E hr h => ?_)
  · obtain ⟨_, _, rfl, _⟩ := h
    rfl
  · obtain ⟨a, r, rfl, hk, q⟩ := h
    obtain ⟨dx, ha⟩ := id hk
    refine ⟨_, (pss_one (ps_ret (pe_tup (pa_cons (pe_hasP p1 T.cl (hr.mono (by decide)) (pv 0)) (pa_cons (pe_hasP p2 T.cl (hr.mono (by decide)) (pv 0)) (pa_cons (pe_hasP p3 T.cl (hr.mono (by decide)) (pv 0)) (pa_cons (pe_hasP p4 T.cl (hr.mono (by decide)) (pv 0)) (pa_cons (pe_hasP p5 T.cl (hr.mono (by decide)) (pv 0)) (pa_cons (pe_hasP p6 T.cl (hr.mono (by decide)) (pv 0)) pa_nil))))))))), ?_⟩
    exact ⟨_, rfl, a, dx, _, rfl, ha, a, r, rfl, hk, _, rfl, a, dx, _, rfl, ha, a, r, rfl, hk, _, rfl, a, dx, _, rfl, ha, a, r, rfl, hk, _, rfl, a, dx, _, rfl, ha, a, r, rfl, hk, _, rfl, a, dx, _, rfl, ha, a, r, rfl, hk, _, rfl, a, dx, _, rfl, ha, a, r, rfl, hk, (by show 6 ≤ sizeLine; decide), fun t nt => q t nt⟩
abbrev s_Kind___eq__ : Stmt := inClass (top 15) 8
theorem sc_KindD_eqD : FnScope ["self", "other"] ["self", "other"] (defScope s_Kind___eq__) := ⟨rfl, rfl, rfl, by decide +kernel, rfl, by decide +kernel, by decide +kernel⟩
theorem m_eqK (B : Blts mg) (T : KindT K mg C Cs) (F : MethAt K C "__eq__" "Kind.__eq__" s_Kind___eq__) (h_numbers_and_names : Has P w K mg base "_numbers_and_names" 3 ["kind"] (spRowOf C)) : HasM P w K mg base C "__eq__" 4 ["self", "other"] (spEqK K C) := by
  refine hasM_of F sc_KindD_eqD (fun _ _ _ _ _ _ us hl => match us, hl with | [_, _], _ => rfl) (fun vs H Q E h => ?_) (fun f cdv A outer s H vs Q E hr h => ?_)
  · obtain ⟨_, _, _, rfl, _⟩ := h
    rfl
  · obtain ⟨a, o, r, rfl, hf, okr, ho⟩ := h
    refine ⟨_, (pss_one (ps_ret (pe_and (pe_callB call_isi (by rfl) B.n_isinstance (by decide +kernel) (pa_cons (pv 1) (pa_cons (pe_glob (v := .ref C) rfl T.g rfl) pa_nil))) (pe_one (pe_cmpR (op_eqD hr.units) (pe_has h_numbers_and_names (hr.mono (by decide)) (pa_cons (pv 0) pa_nil)) (pe_has h_numbers_and_names (hr.mono (by decide)) (pa_cons (pv 1) pa_nil)) (by first | exact nomark _ | rfl)))))), ?_⟩
    rcases ho with ⟨b, u, rfl, hb, oku, k⟩ | ⟨T', hT, hs, q⟩
    · obtain ⟨db, hb'⟩ := id hb
      refine ⟨_, rfl, _, _, _, _, true, rfl, .own C, T.own.ty hb', kit_self, true, rfl, ?_⟩
      refine iteT ?_
      refine ⟨_, rfl, a, r, rfl, hf, fun t ht => ?_⟩
      refine ⟨_, rfl, b, u, rfl, hb.same (Same.new ht), fun z hz => ?_⟩
      exact ⟨.tuple (rowD r), .tuple (rowD u), .tup (SqT.of (Same.new hz _ _ upd_same)) (dp_row r), .tup (SqT.of upd_same) (dp_row u), shaped_row okr, shaped_row oku, k _ ((Same.new ht).trans (Same.new hz))⟩
    · refine ⟨_, rfl, _, _, _, _, false, rfl, .own C, hT, T.own.kit hs, false, rfl, ?_⟩
      refine iteF ?_
      exact q
/-- Kind(n, t, m, back=b, mirror=i, yarn=y) -/
theorem hKind3 (B : Blts mg) (G : Globs mg) (T : KindT K mg C Cs) (I : InitAt K mg "Kind" C "Kind.__init__" s_Kind___init__ [] [("back", .non), ("mirror", .non), ("yarn", .int 1)])
    (his_name : Has P w K mg base "is_name" 1 ["value"] spIsName) (his_count_to : Has P w K mg base "is_count_to" 3 ["value", "most"] spCountTo) :
    MakX P w K mg base "Kind" C 4 3 ["self", "name", "takes", "makes", "back", "mirror", "yarn"] ["back", "mirror", "yarn"] (spKind C Cs) (fun vs zs => vs ++ zs) := by
  obtain ⟨f, fd, hm, M, F⟩ := I.ex
  obtain ⟨mv, hb⟩ := F.kbinds0 (ps := ["self", "name", "takes", "makes", "back", "mirror", "yarn"]) 4 ["back", "mirror", "yarn"] [] (fun us _ ws => us ++ ws) (by simp) (fun _ h => nomatch h) (fun a _ c => a.append c)
    (fun D doc pm an cdv ct us mv ws hu hm hw => match us, mv, ws, hu, hm, hw with | [_, _, _, _], [], [_, _, _], _, _, _ => rfl)
  exact ⟨f, fd, _, hm, M, hb, ok_kind B G T F his_name his_count_to⟩
/-- Kind(yarn=y, mirror=i, back=b, makes=m, takes=t, name=n) -/
def turn6 {α : Type} : List α → List α → List α
  | [p], [y, i, b, m, t, n] => [p, n, t, m, b, i, y]
  | l, _ => l
theorem vals_turn6 : ∀ {vs zs : List V} {us ws : List Value}, Vals vs us → Vals zs ws → Vals (turn6 vs zs) (turn6 us ws) := by
  intro vs zs us ws r1 r2
  cases r1 with
  | nil => exact .nil
  | cons a r1 =>
    cases r1 with
    | cons b c => exact .cons a (.cons b c)
    | nil =>
      cases r2 with
      | nil => exact .cons a .nil
      | cons y r2 => cases r2 with
        | nil => exact .cons a .nil
        | cons i r2 => cases r2 with
          | nil => exact .cons a .nil
          | cons bb r2 => cases r2 with
            | nil => exact .cons a .nil
            | cons m r2 => cases r2 with
              | nil => exact .cons a .nil
              | cons t r2 => cases r2 with
                | nil => exact .cons a .nil
                | cons n r2 => cases r2 with
                  | nil => exact .cons a (.cons n (.cons t (.cons m (.cons bb (.cons i (.cons y .nil))))))
                  | cons _ _ => exact .cons a .nil
theorem hKind6 (B : Blts mg) (G : Globs mg) (T : KindT K mg C Cs) (I : InitAt K mg "Kind" C "Kind.__init__" s_Kind___init__ [] [("back", .non), ("mirror", .non), ("yarn", .int 1)])
    (his_name : Has P w K mg base "is_name" 1 ["value"] spIsName) (his_count_to : Has P w K mg base "is_count_to" 3 ["value", "most"] spCountTo) :
    MakX P w K mg base "Kind" C 4 0 ["self", "name", "takes", "makes", "back", "mirror", "yarn"] ["yarn", "mirror", "back", "makes", "takes", "name"] (spKind C Cs) turn6 := by
  obtain ⟨f, fd, hm, M, F⟩ := I.ex
  obtain ⟨mv, hb⟩ := F.kbinds0 (ps := ["self", "name", "takes", "makes", "back", "mirror", "yarn"]) 1 ["yarn", "mirror", "back", "makes", "takes", "name"] [] (fun us _ ws => turn6 us ws) (by simp) (fun _ h => nomatch h) (fun a _ c => vals_turn6 a c)
    (fun D doc pm an cdv ct us mv ws hu hm hw => match us, mv, ws, hu, hm, hw with | [_], [], [_, _, _, _, _, _], _, _, _ => rfl)
  exact ⟨f, fd, _, hm, M, hb, ok_kind B G T F his_name his_count_to⟩
/-- Kind(n, t, m) -/
theorem hKindD (B : Blts mg) (G : Globs mg) (T : KindT K mg C Cs) (I : InitAt K mg "Kind" C "Kind.__init__" s_Kind___init__ [] [("back", .non), ("mirror", .non), ("yarn", .int 1)])
    (his_name : Has P w K mg base "is_name" 1 ["value"] spIsName) (his_count_to : Has P w K mg base "is_count_to" 3 ["value", "most"] spCountTo) :
    MakD P w K mg base "Kind" C 4 ["self", "name", "takes", "makes", "back", "mirror", "yarn"] (spKind C Cs) [.non, .non, .int 1] := by
  obtain ⟨f, fd, hm, M, F⟩ := I.ex
  obtain ⟨ds, hd, hb⟩ := F.binds0 (ps := ["self", "name", "takes", "makes", "back", "mirror", "yarn"]) 4 (by simp) rfl
    (fun D doc pm an cdv ct us ws hu hw => match us, ws, hu, hw with | [_, _, _, _], [_, _, _], _, _ => ⟨_, _, _, _, _, _, rfl, rfl, _, _, _, _, _, _, rfl, rfl, _, _, _, _, _, _, rfl, rfl, rfl⟩)
  exact ⟨f, fd, ds, hm, M, hb, hd, ok_kind B G T F his_name his_count_to⟩
end
end N

set_option maxHeartbeats 4000000
namespace L2
open PySem PySem.Spec PyProof.Rows
/-- repr of what is no container -/
def rReprF : List V → Hp → VK → Prop := fun xs H Q => (∃ s : Str, xs = [.str s] ∧ (reprText s).length ≤ sizeLine ∧ Q (.str (reprText s)) H) ∨ (∃ i : Int, xs = [.int i] ∧ i.natAbs.log2 < 1920 ∧ Q (.str (toString i)) H) ∨ xs = [.non] ∧ Q (.str "None") H
theorem call_reprF {X : Cx} : CallR X (.builtin "repr") rReprF := by
  intro pins s σ H xs us Q I r h
  rcases h with ⟨z, rfl, hz, q⟩ | ⟨i, rfl, hi, q⟩ | ⟨rfl, q⟩
  · obtain ⟨u, rfl, ru⟩ := r.one
    obtain ⟨t, rfl⟩ := (show ∃ t, u = Value.str z t from ru)
    exact PySem.P.repr_of_str ⟨.str _, H, I.tok _, ⟨_, rfl⟩, q⟩ hz
  · obtain ⟨u, rfl, ru⟩ := r.one
    obtain ⟨t, rfl⟩ := (show ∃ t, u = Value.int i t from ru)
    exact PySem.P.repr_of_int hi ⟨.str _, H, I.tok _, ⟨_, rfl⟩, q⟩
  · obtain ⟨u, rfl, ru⟩ := r.one
    cases (show u = Value.none from ru)
    exact PySem.P.repr_of_none ⟨.str _, H, I.tok _, ⟨_, rfl⟩, q⟩
end L2
namespace N
open PySem L2
def num (i : Int) : Str := Str.ofString (toString i)
theorem num_len {i : Int} (h0 : 0 ≤ i) (h : i ≤ 999) : (num i).length ≤ 3 := PyProof.Rows.toString_length_le h0 (by decide) (by omega)
theorem rep_len {s : Str} (h : NameOk s) : (reprText s).length ≤ 82 := by
  have := StrLaws.reprText_len s fun c hc => by
    have := (Array.all_eq_true_iff_forall_mem.mp h.sign) c (Array.mem_toList_iff.mp hc)
    have : c < 0x110000 := of_decide_eq_true this
    omega
  have := h.2.1
  omega
/-- a word of a kind's text, where one is due -/
def kwO (pre : Str) : Option Str → List Str
  | none => []
  | some s => [pre ++ reprText s]
def kwY (y : Int) : List Str := if y = 1 then [] else ["yarn=" ++ num y]
def kw3 (r : Row) : List Str := [reprText r.name, num r.takes, num r.makes]
def kws (r : Row) : List Str := kw3 r ++ kwO "back=" r.back ++ kwO "mirror=" r.mirror ++ kwY r.yarn
def kindText (r : Row) : Str := "Kind(" ++ Txt.join ", " (kws r) ++ ")"
theorem kwO_len {pre : Str} (hp : pre.length ≤ 7) {o : Option Str} (h : ∀ x, o = some x → NameOk x) : ∀ x ∈ kwO pre o, x.length ≤ 90 := by
  intro x hx
  cases o with
  | none => cases hx
  | some s =>
    simp only [kwO, List.mem_singleton] at hx
    subst hx
    rw [Str.length_append]
    have := rep_len (h s rfl)
    omega
theorem kws_len {r : Row} (ok : KindOk r) : ∀ x ∈ kws r, x.length ≤ 90 := by
  intro x hx
  simp only [kws, List.mem_append] at hx
  rcases hx with ((hx | hx) | hx) | hx
  · simp only [kw3, List.mem_cons, List.mem_nil_iff, or_false] at hx
    rcases hx with rfl | rfl | rfl
    · have := rep_len ok.name; omega
    · have := num_len ok.takes.1 (by have := ok.takes.2; omega); omega
    · have := num_len ok.makes.1 (by have := ok.makes.2; omega); omega
  · exact kwO_len (by decide) ok.back x hx
  · exact kwO_len (by decide) ok.mirror x hx
  · unfold kwY at hx
    split at hx
    · cases hx
    · simp only [List.mem_singleton] at hx
      subst hx
      rw [Str.length_append]
      have := num_len ok.yarn.1 ok.yarn.2
      have : ("yarn=" : Str).length = 5 := rfl
      omega
theorem kws_many (r : Row) : (kws r).length ≤ 6 := by
  have o : ∀ (p : Str) (o : Option Str), (kwO p o).length ≤ 1 := fun p o => by cases o <;> simp [kwO]
  have y : (kwY r.yarn).length ≤ 1 := by unfold kwY; split <;> simp
  have := o "back=" r.back
  have := o "mirror=" r.mirror
  simp only [kws, kw3, List.length_append, List.length_cons, List.length_nil]
  omega
theorem sum_le {l : List Str} {n : Nat} (h : ∀ x ∈ l, x.length ≤ n) : (l.map (·.length)).sum ≤ n * l.length := by
  induction l with
  | nil => simp
  | cons a l ih =>
    have h1 := h a (by simp)
    have h2 := ih fun x hx => h x (by simp [hx])
    simp only [List.map_cons, List.sum_cons, List.length_cons]
    rw [Nat.mul_succ]
    omega
theorem kws_sum {r : Row} (ok : KindOk r) : ((kws r).map (·.length)).sum + (kws r).length * (", " : Str).length ≤ 600 := by
  have h1 := sum_le (kws_len ok)
  have h2 := kws_many r
  have h3 : (", " : Str).length = 2 := rfl
  rw [h3]
  have : 90 * (kws r).length ≤ 540 := by omega
  omega
/-- the words so far stand at p -/
def Ws (p : Addr) (H H' : Hp) (ws : List Str) : Prop := H' p = some (.lst (ws.map V.str)) ∧ ∀ b o, H b = some o → H' b = some o
theorem Ws.more {p : Addr} {H H' : Hp} {ws : List Str} {x : Str} (np : H p = none) (h : Ws p H H' ws) : Ws p H (upd H' p (.lst (ws.map V.str ++ [.str x]))) (ws ++ [x]) :=
  ⟨by rw [upd_same, List.map_append]; rfl, fun b o e => by rw [upd_ne (ne_of_none e np)]; exact h.2 b o e⟩
def spReprK (C : Addr) : Sp := fun vs H Q _ => ∃ (a : Addr) (r : Row), vs = [.ref a] ∧ KindAt C H a r ∧ KindOk r ∧ ∀ H', Same H H' → Q (.str (kindText r)) H'
section
variable {P : Program} {w : World} {K : PySem.W.Frag} {mg : Str → Option Value} {base : Heap} {C : Addr} {Cs : Nat → Addr}
abbrev s_Kind___repr__ : Stmt := inClass (top 15) 9
theorem sc_KindD_reprD : FnScope ["self", "words"] ["self"] (defScope s_Kind___repr__) := ⟨rfl, rfl, rfl, by decide +kernel, rfl, by decide +kernel, by decide +kernel⟩
theorem m_reprK (B : Blts mg) (T : KindT K mg C Cs) (F : MethAt K C "__repr__" "Kind.__repr__" s_Kind___repr__) : HasM P w K mg base C "__repr__" 1 ["self"] (spReprK C) := by
  refine hasM_of F sc_KindD_reprD (fun _ _ _ _ _ _ us hl => match us, hl with | [_], _ => rfl) (fun vs H Q E h => ?_) (fun f cdv A outer s H vs Q E hr h => ?_)
  · obtain ⟨_, _, rfl, _⟩ := h
    rfl
  · obtain ⟨a, r, rfl, ⟨dx, ha⟩, ok, k⟩ := h
    refine ⟨_, (pss_cons (ps_set (i := 1) sc_KindD_reprD.nd rfl (Or.inl rfl) (pe_lst (pa_cons (pe_callB call_reprF (by rfl) B.n_repr (by decide +kernel) (pa_cons (pe_fld (pv 0) rfl) pa_nil)) (pa_cons (pe_callB call_reprF (by rfl) B.n_repr (by decide +kernel) (pa_cons (pe_fld (pv 0) rfl) pa_nil)) (pa_cons (pe_callB call_reprF (by rfl) B.n_repr (by decide +kernel) (pa_cons (pe_fld (pv 0) rfl) pa_nil)) pa_nil)))))
      (pss_cons (ps_if (pt_cmpR op_notN (pe_fld (pv 0) rfl) pe_non (by first | exact nomark _ | rfl)) (pss_one (ps_expr (pe_bm PySem.F.plainAttrs_list PySem.F.slot_list_append PySem.F.type_list_append mt_append (pv 1) (pa_cons (pe_joined (.cons pe_str (.cons (pe_fmtR (pe_fld (pv 0) rfl)) .nil))) pa_nil))))
        pss_nil)
      (pss_cons (ps_if (pt_cmpR op_notN (pe_fld (pv 0) rfl) pe_non (by first | exact nomark _ | rfl)) (pss_one (ps_expr (pe_bm PySem.F.plainAttrs_list PySem.F.slot_list_append PySem.F.type_list_append mt_append (pv 1) (pa_cons (pe_joined (.cons pe_str (.cons (pe_fmtR (pe_fld (pv 0) rfl)) .nil))) pa_nil))))
        pss_nil)
      (pss_cons (ps_if (pt_cmpR op_ne (pe_fld (pv 0) rfl) pe_int (by first | exact nomark _ | rfl)) (pss_one (ps_expr (pe_bm PySem.F.plainAttrs_list PySem.F.slot_list_append PySem.F.type_list_append mt_append (pv 1) (pa_cons (pe_joined (.cons pe_str (.cons (pe_fmtR (pe_fld (pv 0) rfl)) .nil))) pa_nil))))
        pss_nil)
      (pss_one (ps_ret (pe_joined (.cons pe_str (.cons (pe_fmt (pe_join pe_str (pv 1))) (.cons pe_str .nil)))))))))), ?_⟩
    have f1 := rep_len ok.name
    have f2 := num_len ok.takes.1 (by have := ok.takes.2; omega)
    have f3 := num_len ok.makes.1 (by have := ok.makes.2; omega)
    have big : ∀ n : Nat, n ≤ 1000 → n ≤ sizeLine := fun n h => Nat.le_trans h (by decide)
    refine ⟨_, rfl, a, C, dx, _, _, rfl, ha, T.cl, T.n0, rfl, .inl ⟨_, rfl, big _ (by omega), _, rfl, a, C, dx, _, _, rfl, ha, T.cl, T.n1, rfl, .inr (.inl ⟨_, rfl, small_log ok.takes.1 (by have := ok.takes.2; omega), _, rfl, a, C, dx, _, _, rfl, ha, T.cl, T.n2, rfl, .inr (.inl ⟨_, rfl, small_log ok.makes.1 (by have := ok.makes.2; omega), (by show 3 ≤ sizeLine; decide), fun p np => ?_⟩)⟩)⟩⟩
    have w0 : Ws p H (upd H p (.lst ((kw3 r).map V.str))) (kw3 r) := ⟨upd_same, fun b o e => by rw [upd_ne (ne_of_none e np)]; exact e⟩
    have few : ∀ ws : List Str, ws.length ≤ 6 → (ws.map V.str).length < sizeLine := fun ws h => by
      rw [List.length_map]
      exact Nat.lt_of_le_of_lt h (by decide)
    have o1 : ∀ (p : Str) (o : Option Str), (kwO p o).length ≤ 1 := fun p o => by cases o <;> simp [kwO]
    refine next_of ?_
    dsimp only
    refine seq_cut (fun σ' H' => σ' = [some (.ref a), some (.ref p)] ∧ Ws p H H' (kw3 r ++ kwO "back=" r.back)) (fun Z hZ => ?_) ?_
    · refine ⟨_, rfl, a, C, dx, _, _, rfl, w0.2 _ _ ha, T.cl, T.n3, rfl, rfl, _, rfl, ?_⟩
      refine ite2 (fun c => ?_) (fun c => ?_)
      · obtain ⟨x, hb⟩ : ∃ x, r.back = some x := by
          cases hb : r.back with
          | none => simp [Row.six, hb, ov] at c
          | some x => exact ⟨x, rfl⟩
        have fx := rep_len (ok.back x hb)
        refine ⟨_, rfl, .inl ⟨rfl, _, SqL.of w0.1⟩, ("back=" : Str), rfl, by decide +kernel, _, rfl, a, C, dx, _, _, rfl, w0.2 _ _ ha, T.cl, T.n3, rfl, .inl ⟨x, by show ov r.back = _; rw [hb]; rfl, big _ (by omega), _, rfl, ?_, p, _, _, rfl, rfl, w0.1, few _ (by simp [kw3]), hZ _ _ ⟨rfl, ?_⟩⟩⟩
        · rw [Str.empty_append, Str.length_append]
          exact big _ (by have : ("back=" : Str).length = 5 := rfl; omega)
        · rw [Str.empty_append, hb]
          exact w0.more np
      · have hb : r.back = none := by
          cases hb : r.back with
          | none => rfl
          | some x => simp [Row.six, hb, ov] at c
        exact hZ _ _ ⟨rfl, by rw [hb, show kwO "back=" none = [] from rfl, List.append_nil]; exact w0⟩
    rintro _ H2 ⟨rfl, w2⟩
    refine seq_cut (fun σ' H' => σ' = [some (.ref a), some (.ref p)] ∧ Ws p H H' (kw3 r ++ kwO "back=" r.back ++ kwO "mirror=" r.mirror)) (fun Z hZ => ?_) ?_
    · refine ⟨_, rfl, a, C, dx, _, _, rfl, w2.2 _ _ ha, T.cl, T.n4, rfl, rfl, _, rfl, ?_⟩
      refine ite2 (fun c => ?_) (fun c => ?_)
      · obtain ⟨x, hb⟩ : ∃ x, r.mirror = some x := by
          cases hb : r.mirror with
          | none => simp [Row.six, hb, ov] at c
          | some x => exact ⟨x, rfl⟩
        have fx := rep_len (ok.mirror x hb)
        refine ⟨_, rfl, .inl ⟨rfl, _, SqL.of w2.1⟩, ("mirror=" : Str), rfl, by decide +kernel, _, rfl, a, C, dx, _, _, rfl, w2.2 _ _ ha, T.cl, T.n4, rfl, .inl ⟨x, by show ov r.mirror = _; rw [hb]; rfl, big _ (by omega), _, rfl, ?_, p, _, _, rfl, rfl, w2.1, few _ (by have := o1 "back=" r.back; simp only [kw3, List.length_append, List.length_cons, List.length_nil]; omega), hZ _ _ ⟨rfl, ?_⟩⟩⟩
        · rw [Str.empty_append, Str.length_append]
          exact big _ (by have : ("mirror=" : Str).length = 7 := rfl; omega)
        · rw [Str.empty_append, hb]
          exact w2.more np
      · have hb : r.mirror = none := by
          cases hb : r.mirror with
          | none => rfl
          | some x => simp [Row.six, hb, ov] at c
        exact hZ _ _ ⟨rfl, by rw [hb, show kwO "mirror=" none = [] from rfl, List.append_nil]; exact w2⟩
    rintro _ H3 ⟨rfl, w3⟩
    refine seq_cut (fun σ' H' => σ' = [some (.ref a), some (.ref p)] ∧ Ws p H H' (kws r)) (fun Z hZ => ?_) ?_
    · refine ⟨_, rfl, a, C, dx, _, _, rfl, w3.2 _ _ ha, T.cl, T.n5, rfl, rfl, _, rfl, ?_⟩
      have fy := num_len ok.yarn.1 ok.yarn.2
      refine ite2 (fun c => ?_) (fun c => ?_)
      · have hy : ¬ r.yarn = 1 := by simpa [Row.six] using c
        refine ⟨_, rfl, .inl ⟨rfl, _, SqL.of w3.1⟩, ("yarn=" : Str), rfl, by decide +kernel, _, rfl, a, C, dx, _, _, rfl, w3.2 _ _ ha, T.cl, T.n5, rfl, .inr ⟨r.yarn, rfl, small_log ok.yarn.1 ok.yarn.2, num r.yarn, rfl, ?_, p, _, _, rfl, rfl, w3.1, few _ (by have := o1 "back=" r.back; have := o1 "mirror=" r.mirror; simp only [kw3, List.length_append, List.length_cons, List.length_nil]; omega), hZ _ _ ⟨rfl, ?_⟩⟩⟩
        · rw [Str.empty_append, Str.length_append]
          exact big _ (by have : ("yarn=" : Str).length = 5 := rfl; omega)
        · rw [Str.empty_append, kws, kwY, if_neg hy]
          exact w3.more np
      · have hy : r.yarn = 1 := by simpa [Row.six] using c
        exact hZ _ _ ⟨rfl, by rw [kws, kwY, if_pos hy, List.append_nil]; exact w3⟩
    rintro _ H4 ⟨rfl, w4⟩
    have jl : (Txt.join ", " (kws r)).length ≤ 700 := by
      rw [show Txt.join (", " : Str) (kws r) = Str.join ", " (kws r) from StrLaws.glued_eq_join _ _]
      exact Nat.le_trans (StrLaws.join_length_le _ _) (Nat.le_trans (kws_sum ok) (by decide))
    refine ⟨("Kind(" : Str), rfl, by decide +kernel, ⟨_, rfl⟩, _, rfl, ", ", p, kws r, rfl, rfl, .inl (SqL.of w4.1), Nat.le_trans (kws_sum ok) (by decide), .inl ⟨_, rfl, big _ (by omega), _, rfl, ?_, _, rfl, ?_, ?_⟩⟩
    · rw [Str.empty_append, Str.length_append]
      exact big _ (by have : ("Kind(" : Str).length = 5 := rfl; omega)
    · rw [Str.empty_append, Str.length_append, Str.length_append]
      exact big _ (by have : ("Kind(" : Str).length = 5 := rfl; have : (")" : Str).length = 1 := rfl; omega)
    · rw [Str.empty_append]
      exact k H4 w4.2
end
end N

set_option maxHeartbeats 4000000
namespace N
open PySem L2
/-! ### drawn kinds -/
/-- [draws of a pot for _ in range(n)] -/
theorem lc_draws {n : Nat} {p : Addr} {g : TG} {te : TE} {vs : List Nat} {σ : St} {H : Hp} {D : Addr} {Qd : Hp → Prop} (S : V → Prop) (hp : Pot H p) (nD : H D = none) (hn : n < 1000000)
    (hs : ∀ (i : Nat) H', i < n → Pot H' p → But p H H' → ∀ R : V → Hp → Prop, (∀ v H4, S v → Pot H4 p → But p H' H4 → R v H4) → g (.int (0 + i)) (wipe σ vs) H' fun σ2 H2 => wipe σ2 vs = wipe σ vs ∧ te σ2 H2 R)
    (hd : ∀ ys H', ys.length = n → (∀ y ∈ ys, S y) → Pot H' p → But p H H' → H' D = some (.lst ys) → Qd H') :
    ∃ W : Nat → Nat → Hp → Prop, (∃ m, W 0 m (upd H D (.lst []))) ∧ ∀ i m H, W i m H →
      ((Itr 0 n).stop i H ∧ Qd H) ∨ ((Itr 0 n).go i H ∧ ∃ Nx : Hp → Prop, (∀ H', Nx H' → ∃ m', m' < m ∧ W (i + 1) m' H') ∧ ∀ x H', (Itr 0 n).yld i H x H' → g x (wipe σ vs) H' fun σ2 H2 => wipe σ2 vs = wipe σ vs ∧ tYes σ2 H2 fun b H3 =>
        if b = true then te σ2 H3 fun y H4 => ∃ acc, H4 D = some (.lst acc) ∧ acc.length < sizeLine ∧ Nx (upd H4 D (.lst (acc ++ [y]))) else Nx H3) := by
  have nDp : D ≠ p := hp.ne nD
  refine lc_range (fun i H' => Pot H' p ∧ But p H H' ∧ ∃ ys, H' D = some (.lst ys) ∧ ys.length = i ∧ ∀ y ∈ ys, S y) ⟨hp.new nD, But.new nD, [], upd_same, rfl, fun _ h => nomatch h⟩ (fun i H1 hi h => ?_) (fun H' h => ?_)
  · obtain ⟨hp1, e1, ys, hD, hl, hy⟩ := h
    have q := hs i H1 hi hp1 e1 (fun y H4 => ∃ acc, H4 D = some (.lst acc) ∧ acc.length < sizeLine ∧ (Pot (upd H4 D (.lst (acc ++ [y]))) p ∧ But p H (upd H4 D (.lst (acc ++ [y]))) ∧ ∃ zs, (upd H4 D (.lst (acc ++ [y]))) D = some (.lst zs) ∧ zs.length = i + 1 ∧ ∀ z ∈ zs, S z)) fun v H4 sv hp4 e4 => by
      refine ⟨ys, e4 _ _ hD nDp, Nat.lt_of_lt_of_le (by omega : ys.length < 1000000) (by decide), ?_, fun b o hb hbp => ?_, ys ++ [v], upd_same, by rw [List.length_append, hl]; rfl, fun z hz => ?_⟩
      · obtain ⟨a, b, e, r⟩ := hp4
        exact ⟨a, b, (upd_ne nDp.symm).trans e, r⟩
      · rw [upd_ne (ne_of_none hb nD)]
        exact e4 _ _ (e1 _ _ hb hbp) hbp
      · rcases List.mem_append.mp hz with hz | hz
        · exact hy z hz
        · rw [List.mem_singleton.mp hz]; exact sv
    exact q
  · obtain ⟨hp1, e1, ys, hD, hl, hy⟩ := h
    exact hd ys H' hl hy hp1 e1 hD
def one (c : Nat) : Str := ⟨#[c]⟩
def spPickS : Sp := fun vs H Q _ => ∃ (p : Addr) (z : Str), vs = [.ref p, .str z] ∧ Pot H p ∧ 1 ≤ z.length ∧ z.length < 1000 ∧ ∀ c H', c ∈ z.cps.toList → Pot H' p → But p H H' → Q (.str (one c)) H'
def spLabel : Sp := fun vs H Q _ => ∃ p : Addr, vs = [.ref p] ∧ Pot H p ∧ ∀ s H', NameOk s → Pot H' p → But p H H' → Q (.str s) H'
theorem join_ones : ∀ cs : List Nat, (Str.join "" (cs.map one)).cps.toList = cs
  | [] => rfl
  | [c] => rfl
  | c :: d :: r => by
    have ih := join_ones (d :: r)
    have e : Str.join "" ((c :: d :: r).map one) = (one c ++ "") ++ Str.join "" ((d :: r).map one) := rfl
    rw [e]
    have a : ∀ x y : Str, (x ++ y).cps.toList = x.cps.toList ++ y.cps.toList := fun x y => by
      show (x.cps ++ y.cps).toList = _
      simp
    rw [a, a, ih]
    rfl
theorem label_ok {cs : List Nat} (h1 : 1 ≤ cs.length) (h8 : cs.length ≤ 8) (hc : ∀ c ∈ cs, c ∈ letters.cps.toList) : NameOk (Txt.join "" (cs.map one)) := by
  have e : (Txt.join "" (cs.map one)).cps.toList = cs := by
    rw [show Txt.join ("" : Str) (cs.map one) = Str.join "" (cs.map one) from StrLaws.glued_eq_join _ _]
    exact join_ones cs
  have l : (Txt.join "" (cs.map one)).length = cs.length := by
    rw [show (Txt.join "" (cs.map one)).length = (Txt.join "" (cs.map one)).cps.toList.length by simp [Str.length], e]
  exact ⟨by omega, by omega, fun c h => hc c (by rw [e] at h; exact h)⟩
section
variable {P : Program} {w : World} {K : PySem.W.Frag} {mg : Str → Option Value} {base : Heap} {C : Addr} {Cs : Nat → Addr}
theorem h_law_pickS (B : Blts mg) (F : FunAt K mg "_law_pick" "_law_pick" s__law_pick) (h_law_draw : Has P w K mg base "_law_draw" 1 ["_law_pot_here", "_law_many"] spDraw) : Has P w K mg base "_law_pick" 2 ["_law_pot_here", "_law_some"] spPickS := by
  refine has_of F sc__law_pick (fun _ _ _ _ _ _ us hl => match us, hl with | [_, _], _ => rfl) (fun vs H Q E h => ?_) (fun f cdv A outer s H vs Q E hr h => ?_)
  · obtain ⟨p, z, rfl, _⟩ := h
    rfl
  · obtain ⟨p, z, rfl, hp, h1, hl, k⟩ := h
    refine ⟨_, (pss_one (ps_ret (pe_ix ix_str (pv 1) (pe_has h_law_draw (hr.mono (by decide)) (pa_cons (pv 0) (pa_cons (pe_callB call_len (by rfl) B.n_len PySem.boot_len (pa_cons (pv 1) pa_nil)) pa_nil))) (fun _ _ => rfl)))), ?_⟩
    have zs : z.length ≤ sizeLine := Nat.le_trans (by omega : z.length ≤ 1000) (by decide)
    refine ⟨_, rfl, _, rfl, _, rfl, _, z.length, rfl, ⟨zs, rfl⟩, p, _, rfl, hp, by omega, by omega, fun d H' d0 d1 hp' e => ?_⟩
    have dl : d.toNat < z.cps.toList.length := by
      have : z.cps.toList.length = z.length := by simp [Str.length]
      omega
    exact ⟨z, d, z.cps.toList[d.toNat], rfl, rfl, zs, atI_at d0 (List.getElem?_eq_getElem dl), k _ _ (List.getElem_mem dl) hp' e⟩
abbrev s__law_label : Stmt := top 21
theorem sc__law_label : FnScope ["_law_pot_here", "_law_size", "_law_turn"] ["_law_pot_here"] (defScope s__law_label) := ⟨rfl, rfl, rfl, by decide +kernel, rfl, by decide +kernel, by decide +kernel⟩
theorem h_law_label (B : Blts mg) (F : FunAt K mg "_law_label" "_law_label" s__law_label) (h_law_pick : Has P w K mg base "_law_pick" 2 ["_law_pot_here", "_law_some"] (spPick K)) (h_law_pickS : Has P w K mg base "_law_pick" 2 ["_law_pot_here", "_law_some"] spPickS) :
    Has P w K mg base "_law_label" 3 ["_law_pot_here"] spLabel := by
  refine has_of F sc__law_label (fun _ _ _ _ _ _ us hl => match us, hl with | [_], _ => rfl) (fun vs H Q E h => ?_) (fun f cdv A outer s H vs Q E hr h => ?_)
  · obtain ⟨p, rfl, _⟩ := h
    rfl
  · obtain ⟨p, rfl, hp, k⟩ := h
    refine ⟨_, (pss_cons (ps_set (i := 1) sc__law_label.nd rfl (Or.inl rfl) (pe_has h_law_pick (hr.mono (by decide)) (pa_cons (pv 0) (pa_cons (pe_lst (pa_cons pe_int (pa_cons pe_int (pa_cons pe_int (pa_cons pe_int (pa_cons pe_int pa_nil)))))) pa_nil))))
      (pss_one (ps_ret (pe_join pe_str (pe_lc (own := [("_law_turn", 2)]) rfl sc__law_label.nd (pi_range1 (by rfl) B.n_range (pa_cons (pv 1) pa_nil)) (blkOk_by (own := [("_law_turn", 2)]) (N := ["_law_pot_here", "_law_size", "_law_turn"]) (sc := defScope s__law_label) (by decide +kernel)) (fun _ _ _ _ _ => by exact (pg_name (i := 2) sc__law_label.nd rfl (Or.inl rfl))) (fun _ _ _ _ _ => by exact pts_nil) (fun _ _ _ _ _ => by exact (pe_has h_law_pickS (hr.mono (by decide)) (pa_cons (pv 0) (pa_cons pe_str pa_nil))))))))), ?_⟩
    refine ⟨_, rfl, by decide, fun l nl => ⟨p, l, _, rfl, hp.new nl, SqL.of upd_same, hp.ne nl, by simp, by decide, fun v H1 hv hp1 e1 => ?_⟩⟩
    obtain ⟨n, rfl, h1, h8⟩ : ∃ n : Nat, v = .int n ∧ 1 ≤ n ∧ n ≤ 8 := by
      simp only [List.mem_cons, List.mem_nil_iff, or_false] at hv
      rcases hv with rfl | rfl | rfl | rfl | rfl
      · exact ⟨1, rfl, by decide, by decide⟩
      · exact ⟨1, rfl, by decide, by decide⟩
      · exact ⟨2, rfl, by decide, by decide⟩
      · exact ⟨4, rfl, by decide, by decide⟩
      · exact ⟨8, rfl, by decide, by decide⟩
    have e01 : But p H H1 := (But.new nl).trans e1
    refine ⟨⟨_, rfl⟩, _, rfl, n, rfl, by omega, by omega, fun D nD => lc_draws (S := fun v => ∃ c, c ∈ letters.cps.toList ∧ v = .str (one c)) hp1 nD (by omega) (fun i H' hi hp' e' R hR => ?_) (fun ys H' hl hy hp' e' hD => ?_)⟩
    · exact ⟨rfl, _, rfl, p, letters, rfl, hp', by decide +kernel, by decide +kernel, fun c H4 hc hp4 e4 => hR _ _ ⟨c, hc, rfl⟩ hp4 e4⟩
    · obtain ⟨cs, rfl, hcs⟩ : ∃ cs : List Nat, ys = (cs.map one).map V.str ∧ ∀ c ∈ cs, c ∈ letters.cps.toList := by
        clear hl hD
        induction ys with
        | nil => exact ⟨[], rfl, fun _ h => nomatch h⟩
        | cons y ys ih =>
          obtain ⟨cs, rfl, h⟩ := ih fun z hz => hy z (by simp [hz])
          obtain ⟨c, hc, rfl⟩ := hy y (by simp)
          exact ⟨c :: cs, rfl, fun d hd => by
            rcases List.mem_cons.mp hd with rfl | hd
            · exact hc
            · exact h d hd⟩
      have hl2 : cs.length = n := by simpa using hl
      refine ⟨"", D, cs.map one, rfl, rfl, .inl (SqL.of hD), ?_, k _ _ (label_ok (by omega) (by omega) hcs) hp' (e01.trans e')⟩
      have : ((cs.map one).map (·.length)).sum ≤ 1 * (cs.map one).length := sum_le fun x hx => by
        obtain ⟨c, _, rfl⟩ := List.mem_map.mp hx
        exact Nat.le_refl 1
      rw [List.length_map] at this ⊢
      have z : ("" : Str).length = 0 := rfl
      rw [z]
      omega
end
/-! ### rows -/
def spFields : Sp := fun vs H Q _ => ∃ p : Addr, vs = [.ref p] ∧ Pot H p ∧ ∀ q r H', H q = none → H' q = some (.lst (rowV r)) → KindOk r → Pot H' p → But p H H' → Q (.ref q) H'
theorem but_new_at {p q : Addr} {H H' : Hp} {o : HO} (hp : Pot H p) (nq : H q = none) (e : But p (upd H q o) H') : H' q = some o := e _ _ upd_same (hp.ne nq)
theorem But.set {p q : Addr} {H H' : Hp} {o : HO} (nq : H q = Option.none) (e : But p H H') : But p H (L2.upd H' q o) := fun b u h n => by
  rw [upd_ne (ne_of_none h nq)]
  exact e b u h n
theorem Pot.put {p q : Addr} {H : Hp} {o : HO} (h : Pot H p) (n : q ≠ p) : Pot (L2.upd H q o) p := by
  obtain ⟨a, b, e, r⟩ := h
  exact ⟨a, b, by rw [upd_ne n.symm]; exact e, r⟩
/-- None, a name, or another one -/
theorem picked_ov {a b : Str} {v : V} (ha : NameOk a) (hb : NameOk b) (h : v ∈ [V.non, .str a, .str b]) : ∃ o : Option Str, v = ov o ∧ ∀ x, o = some x → NameOk x := by
  simp only [List.mem_cons, List.mem_nil_iff, or_false] at h
  rcases h with rfl | rfl | rfl
  · exact ⟨none, rfl, fun _ h => nomatch h⟩
  · exact ⟨some a, rfl, fun x h => by cases h; exact ha⟩
  · exact ⟨some b, rfl, fun x h => by cases h; exact hb⟩
section
variable {P : Program} {w : World} {K : PySem.W.Frag} {mg : Str → Option Value} {base : Heap} {C : Addr} {Cs : Nat → Addr}
abbrev s__law_fields : Stmt := top 22
theorem sc__law_fields : FnScope ["_law_pot_here", "_law_row"] ["_law_pot_here"] (defScope s__law_fields) := ⟨rfl, rfl, rfl, by decide +kernel, rfl, by decide +kernel, by decide +kernel⟩
theorem h_law_fields (B : Blts mg) (F : FunAt K mg "_law_fields" "_law_fields" s__law_fields) (h_law_draw : Has P w K mg base "_law_draw" 1 ["_law_pot_here", "_law_many"] spDraw) (h_law_pick : Has P w K mg base "_law_pick" 2 ["_law_pot_here", "_law_some"] (spPick K)) (h_law_label : Has P w K mg base "_law_label" 3 ["_law_pot_here"] spLabel) :
    Has P w K mg base "_law_fields" 4 ["_law_pot_here"] spFields := by
  refine has_of F sc__law_fields (fun _ _ _ _ _ _ us hl => match us, hl with | [_], _ => rfl) (fun vs H Q E h => ?_) (fun f cdv A outer s H vs Q E hr h => ?_)
  · obtain ⟨p, rfl, _⟩ := h
    rfl
  · obtain ⟨p, rfl, hp, k⟩ := h
    refine ⟨_, (pss_cons (ps_set (i := 1) sc__law_fields.nd rfl (Or.inl rfl) (pe_lst (pa_cons (pe_has h_law_label (hr.mono (by decide)) (pa_cons (pv 0) pa_nil)) (pa_cons (pe_has h_law_draw (hr.mono (by decide)) (pa_cons (pv 0) (pa_cons pe_int pa_nil))) (pa_cons (pe_has h_law_draw (hr.mono (by decide)) (pa_cons (pv 0) (pa_cons pe_int pa_nil))) pa_nil)))))
      (pss_cons (ps_set (i := 1) sc__law_fields.nd rfl (Or.inl rfl) (pe_op op_cat (pv 1) (pe_lst (pa_cons (pe_has h_law_pick (hr.mono (by decide)) (pa_cons (pv 0) (pa_cons (pe_lst (pa_cons pe_non (pa_cons (pe_ix ix_list (pv 1) pe_int (fun _ _ => rfl)) (pa_cons (pe_has h_law_label (hr.mono (by decide)) (pa_cons (pv 0) pa_nil)) pa_nil)))) pa_nil))) (pa_cons (pe_has h_law_pick (hr.mono (by decide)) (pa_cons (pv 0) (pa_cons (pe_lst (pa_cons pe_non (pa_cons (pe_ix ix_list (pv 1) pe_int (fun _ _ => rfl)) (pa_cons (pe_has h_law_label (hr.mono (by decide)) (pa_cons (pv 0) pa_nil)) pa_nil)))) pa_nil))) pa_nil)))))
      (pss_cons (ps_expr (pe_bm PySem.F.plainAttrs_list PySem.F.slot_list_append PySem.F.type_list_append mt_append (pv 1) (pa_cons (pe_has h_law_pick (hr.mono (by decide)) (pa_cons (pv 0) (pa_cons (pe_lst (pa_cons pe_int (pa_cons pe_int (pa_cons pe_int (pa_cons pe_int (pa_cons pe_int (pa_cons pe_int pa_nil))))))) pa_nil))) pa_nil)))
      (pss_cons (ps_if (PW.pt (pw_and (pt_cmpR op_eq (pe_ix ix_list (pv 1) pe_int (fun _ _ => rfl)) pe_int (by first | exact nomark _ | rfl)) (pw_and1 (pt_cmpR op_eq (pe_ix ix_list (pv 1) pe_int (fun _ _ => rfl)) pe_int (by first | exact nomark _ | rfl))))) (pss_one (ps_asg (pe_op op_add pe_int (pe_has h_law_draw (hr.mono (by decide)) (pa_cons (pv 0) (pa_cons pe_int pa_nil)))) (pg_sub (pv 1) (pe_op op_add pe_int (pe_has h_law_draw (hr.mono (by decide)) (pa_cons (pv 0) (pa_cons pe_int pa_nil)))) set_list)))
        pss_nil)
      (pss_one (ps_ret (pv 1))))))), ?_⟩
    refine ⟨_, rfl, p, rfl, hp, fun nm H1 hn hp1 e1 => ?_⟩
    refine ⟨_, rfl, p, 7, rfl, hp1, by decide, by decide, fun t H2 t0 t1 hp2 e2 => ?_⟩
    refine ⟨_, rfl, p, 7, rfl, hp2, by decide, by decide, fun m H3 m0 m1 hp3 e3 => ?_⟩
    refine ⟨(by show 3 ≤ sizeLine; decide), fun q1 n1 => ?_⟩
    have e03 : But p H H3 := (e1.trans e2).trans e3
    -- the second list
    refine ⟨_, rfl, _, rfl, _, rfl, q1, _, 0, _, rfl, rfl, SqL.of upd_same, rfl, _, rfl, p, rfl, hp3.new n1, fun l1 H4 hl1 hp4 e4 => ?_⟩
    have h41 : H4 q1 = some (.lst [.str nm, .int t, .int m]) := but_new_at hp3 n1 e4
    refine ⟨(by show 3 ≤ sizeLine; decide), fun q2 n2 => ⟨p, q2, _, rfl, hp4.new n2, SqL.of upd_same, hp4.ne n2, by simp, (by show 3 < 1000000; decide), fun v5 H5 hv5 hp5 e5 => ?_⟩⟩
    obtain ⟨ob, rfl, hob⟩ := picked_ov hn hl1 hv5
    have e45 : But p H4 H5 := (But.new n2).trans e5
    have q1p : q1 ≠ p := hp3.ne n1
    have h51 := e45 _ _ h41 q1p
    refine ⟨_, rfl, _, rfl, q1, _, 0, _, rfl, rfl, SqL.of h51, rfl, _, rfl, p, rfl, hp5, fun l2 H6 hl2 hp6 e6 => ?_⟩
    have h61 := e6 _ _ h51 q1p
    refine ⟨(by show 3 ≤ sizeLine; decide), fun q3 n3 => ⟨p, q3, _, rfl, hp6.new n3, SqL.of upd_same, hp6.ne n3, by simp, (by show 3 < 1000000; decide), fun v7 H7 hv7 hp7 e7 => ?_⟩⟩
    obtain ⟨oi, rfl, hoi⟩ := picked_ov hn hl2 hv7
    have e67 : But p H6 H7 := (But.new n3).trans e7
    have h71 := e67 _ _ h61 q1p
    refine ⟨(by show 2 ≤ sizeLine; decide), fun q4 n4 => ?_⟩
    have h81 : (upd H7 q4 (.lst [ov ob, ov oi])) q1 = some (.lst [.str nm, .int t, .int m]) := (upd_ne (ne_of_none h71 n4)).trans h71
    refine ⟨q1, q4, _, _, rfl, rfl, h81, upd_same, (by show 3 + 2 ≤ sizeLine; decide), fun q n5 => ?_⟩
    have e08 : But p H (upd H7 q4 (.lst [ov ob, ov oi])) := ((((e03.trans (But.new n1)).trans e4).trans e45).trans e6).trans e67 |>.trans (But.new n4)
    have hp8 : Pot (upd H7 q4 (.lst [ov ob, ov oi])) p := hp7.new n4
    have qp : q ≠ p := hp8.ne n5
    have nq : H q = none := e08.free qp n5
    have e09 := e08.trans (But.new (o := .lst ([.str nm, .int t, .int m] ++ [ov ob, ov oi])) n5)
    have hp9 := hp8.new (o := .lst ([.str nm, .int t, .int m] ++ [ov ob, ov oi])) n5
    refine ⟨_, rfl, .inl ⟨rfl, _, SqL.of upd_same⟩, _, rfl, (by show 6 ≤ sizeLine; decide), fun l nl => ⟨p, l, _, rfl, hp9.new nl, SqL.of upd_same, hp9.ne nl, by simp, (by show 6 < 1000000; decide), fun v H10 hv hp10 e10 => ?_⟩⟩
    obtain ⟨y, rfl, y0, y9⟩ : ∃ y : Int, v = .int y ∧ 0 ≤ y ∧ y ≤ 999 := by
      simp only [List.mem_cons, List.mem_nil_iff, or_false] at hv
      rcases hv with rfl | rfl | rfl | rfl | rfl | rfl <;> exact ⟨_, rfl, by decide, by decide⟩
    have e910 := (But.new nl).trans e10
    have h10 : H10 q = some (.lst [.str nm, .int t, .int m, ov ob, ov oi]) := e910 _ _ upd_same qp
    refine ⟨q, _, _, rfl, rfl, h10, (by show 5 < sizeLine; decide), ?_⟩
    have hp11 := hp10.put (o := .lst [.str nm, .int t, .int m, ov ob, ov oi, .int y]) qp
    have e011 := But.set (o := .lst [.str nm, .int t, .int m, ov ob, ov oi, .int y]) nq (e09.trans e910)
    have h11 : (upd H10 q (.lst [.str nm, .int t, .int m, ov ob, ov oi, .int y])) q = some (.lst [.str nm, .int t, .int m, ov ob, ov oi, .int y]) := upd_same
    refine next_of ?_
    dsimp only
    refine seq_cut (fun σ' H' => ∃ t' m' : Int, σ' = [some (.ref p), some (.ref q)] ∧ H' q = some (.lst [.str nm, .int t', .int m', ov ob, ov oi, .int y]) ∧ 0 ≤ t' ∧ t' ≤ 6 ∧ 0 ≤ m' ∧ m' ≤ 6 ∧ ¬ (t' = 0 ∧ m' = 0) ∧ Pot H' p ∧ But p H H') (fun Z hZ => ?_) ?_
    · refine ⟨_, rfl, _, _, 1, _, rfl, rfl, SqL.of h11, rfl, rfl, _, rfl, ite2 (fun c1 => ⟨_, rfl, _, _, 2, _, rfl, rfl, SqL.of h11, rfl, rfl, _, rfl, ite2 (fun c2 => ?_) (fun c2 => ?_)⟩) (fun c1 => iteF ?_)⟩
      · -- one of both becomes more than 0
        refine ⟨_, rfl, p, 6, rfl, hp11, by decide, by decide, fun a H12 a0 a1 hp12 e12 => ⟨_, _, rfl, rfl, _, rfl, _, rfl, p, 2, rfl, hp12, by decide, by decide, fun b H13 b0 b1 hp13 e13 => ⟨_, _, rfl, rfl, ?_⟩⟩⟩
        have h13 := e13 _ _ (e12 _ _ h11 qp) qp
        have e013 : But p H H13 := (e011.trans e12).trans e13
        have bb : b = 0 ∨ b = 1 := by omega
        rcases bb with rfl | rfl
        · exact ⟨q, _, _, 1, rfl, rfl, h13, rfl, hZ _ _ ⟨1 + a, m, rfl, upd_same, by omega, by omega, m0, by omega, fun z => by omega, hp13.put qp, But.set nq e013⟩⟩
        · exact ⟨q, _, _, 2, rfl, rfl, h13, rfl, hZ _ _ ⟨t, 1 + a, rfl, upd_same, t0, by omega, by omega, by omega, fun z => by omega, hp13.put qp, But.set nq e013⟩⟩
      · have z2 : ¬ m = 0 := by simpa using c2
        exact hZ _ _ ⟨t, m, rfl, h11, t0, by omega, m0, by omega, fun z => z2 z.2, hp11, e011⟩
      · have z1 : ¬ t = 0 := by simpa using c1
        exact hZ _ _ ⟨t, m, rfl, h11, t0, by omega, m0, by omega, fun z => z1 z.1, hp11, e011⟩
    · rintro _ H' ⟨t', m', rfl, hq, a1, a2, a3, a4, a5, hp', e'⟩
      exact ⟨_, rfl, k q ⟨nm, t', m', ob, oi, y⟩ H' nq hq ⟨hn, hob, hoi, ⟨a1, a2⟩, ⟨a3, a4⟩, a5, ⟨y0, y9⟩⟩ hp' e'⟩
end
end N

set_option maxHeartbeats 4000000
namespace L2
open PySem PySem.Spec PyProof.Rows
section
variable {P : Program} {w : World} {K : PySem.W.Frag} {mg : Str → Option Value} {base : Heap}
theorem hasX_of {x qual : Str} {st : Stmt} {N ps : List Str} {k : Nat} {sp : Sp} (F : FunAt K mg x qual st) (S : FnScope N ps (defScope st))
    (hb : ∀ (kV doc pm : Value) (an : Option Addr) (cdv ct : Value) (us : List Value), us.length = ps.length → bindArgs (PySem.W.fnOf x qual (defArgs st) (defBody st) (defScope st) .none kV doc pm an cdv ct) ⟨us, []⟩ = pure (ps.zip us))
    (len : ∀ vs H Q E, sp vs H Q E → vs.length = ps.length)
    (hbody : ∀ (f : Addr) (cdv : Value) (A : Around) (outer : List Env) (s : Shared) (H : Hp) (vs : List V) (Q : VK) (E : XK), Room k (A.deeper (envOfC qual (defScope st) s.heap.objs.size f cdv)) → sp vs H Q E →
      ∃ t, PSs (cxOf (L2.CX P w) P w K mg base N qual (defScope st) f cdv A outer s H E) (defBody st) t ∧ t { nx := fun _ H' => Q .non H', rt := Q } (start N vs) H) : HasX P w K mg base x (k + 1) ps sp := by
  obtain ⟨f, fd, hm, F⟩ := F.ex
  exact ⟨f, fd, hm, F.kp, F.binds hb, F.okX S len (hbody f)⟩
end
section
variable {X : Cx} {C : Addr} {n : Nat} {ps : List Str} {sp : Sp}
theorem call_reprKind (h : HasM X.prog X.w X.K X.mg X.base C "__repr__" n ps sp) (hr : Room (n + 1) X.A) : CallR X (.builtin "repr") (rReprOwn C sp E0) := by
  obtain ⟨f, fd, hm, hb, F⟩ := h.ex
  exact call_reprOwn hm.at_ hm.fn F hb hr pass0
theorem op_eqKind (h : HasM X.prog X.w X.K X.mg X.base C "__eq__" n ps sp) (hr : Room n X.A) : OpR X (compareOp .Eq) (rCmpOwn X.K C sp E0) := by
  obtain ⟨f, fd, hm, hb, F⟩ := h.ex
  exact op_eqOwn hm.at_ hm.fn F hb hr pass0
theorem op_neKind (mo : PySem.W.mroIn X.K C (.type "object") = some true) (ne : PySem.W.findIn X.K (.ref C) "__ne__" = some (some (.builtin "object.__ne__"))) (h : HasM X.prog X.w X.K X.mg X.base C "__eq__" n ps sp) (hr : Room (n + 1) X.A) : OpR X (compareOp .NotEq) (rNeOwn X.K C sp E0) := by
  obtain ⟨f, fd, hm, hb, F⟩ := h.ex
  exact op_neOwn mo ne hm.at_ hm.fn F hb hr pass0
end
end L2
namespace N
open PySem L2
/-! ### a kind made of a row, its text, and whether it is the row's -/
def spLawKind (K : PySem.W.Frag) (C : Addr) (Cs : Nat → Addr) : Sp := fun vs H Q E => ∃ (l : Addr) (z : Six), vs = [.ref l] ∧ SqL K H l z.vs ∧ (∀ v ∈ z.vs, Odd H v) ∧
  (z.fault = none → ∀ a dx H', H a = none → H' a = some (.ins C dx (kf z)) → Same H H' → Q (.ref a) H') ∧ (∀ k v, z.fault = some (k, v) → ∀ d H', Same H H' → H' d = some (.xd [("value", v)]) → E (.ref (Cs k)) (some d) H')
theorem made_same {H H' : Hp} {x dx C : Addr} (hx : H x = none) (hd : H dx = none) (e : But x (upd (upd H dx (.own x)) x (.ins C dx [])) H') : Same H H' := fun b o h => by
  have n1 : b ≠ x := ne_of_none h hx
  have n2 : b ≠ dx := ne_of_none h hd
  exact e b o (by rw [upd_ne n1, upd_ne n2]; exact h) n1
theorem made_odd {H : Hp} {x dx C : Addr} (hx : H x = none) (hd : H dx = none) (ne : dx ≠ x) : Same H (upd (upd H dx (.own x)) x (.ins C dx [])) := (Same.new hd).trans (Same.new (by rw [upd_ne ne.symm]; exact hx))
def upTo (r : Row) : Nat → List Str
  | 0 => kw3 r
  | 1 => kw3 r ++ kwO "back=" r.back
  | 2 => kw3 r ++ kwO "back=" r.back ++ kwO "mirror=" r.mirror
  | _ => kws r
def spText (K : PySem.W.Frag) : Sp := fun vs H Q _ => ∃ (l : Addr) (r : Row), vs = [.ref l] ∧ SqL K H l (rowV r) ∧ KindOk r ∧ ∀ H', Same H H' → Q (.str (kindText r)) H'
theorem upTo_few (r : Row) (i : Nat) : (upTo r i).length ≤ 6 := by
  have o : ∀ (p : Str) (o : Option Str), (kwO p o).length ≤ 1 := fun p o => by cases o <;> simp [kwO]
  have := o "back=" r.back
  have := o "mirror=" r.mirror
  match i with
  | 0 => simp [upTo, kw3]
  | 1 => simp only [upTo, kw3, List.length_append, List.length_cons, List.length_nil]; omega
  | 2 => simp only [upTo, kw3, List.length_append, List.length_cons, List.length_nil]; omega
  | n + 3 => exact kws_many r
section
variable {P : Program} {w : World} {K : PySem.W.Frag} {mg : Str → Option Value} {base : Heap} {C : Addr} {Cs : Nat → Addr}
abbrev s__law_kind : Stmt := top 23
theorem sc__law_kind : FnScope ["_law_row"] ["_law_row"] (defScope s__law_kind) := ⟨rfl, rfl, rfl, by decide +kernel, rfl, by decide +kernel, by decide +kernel⟩
theorem h_law_kind (F : FunAt K mg "_law_kind" "_law_kind" s__law_kind) (hKind3 : MakX P w K mg base "Kind" C 4 3 ["self", "name", "takes", "makes", "back", "mirror", "yarn"] ["back", "mirror", "yarn"] (spKind C Cs) (fun vs zs => vs ++ zs)) :
    HasX P w K mg base "_law_kind" 6 ["_law_row"] (spLawKind K C Cs) := by
  refine hasX_of F sc__law_kind (fun _ _ _ _ _ _ us hl => match us, hl with | [_], _ => rfl) (fun vs H Q E h => ?_) (fun f cdv A outer s H vs Q E hr h => ?_)
  · obtain ⟨l, z, rfl, _⟩ := h
    rfl
  · obtain ⟨l, z, rfl, hl, odd, k, ke⟩ := h
    refine ⟨_, (pss_one (ps_ret (pe_makX hKind3 (hr.mono (by decide)) (passes_call (takes_of rfl rfl rfl rfl) (fun _ _ _ _ h => h)) (pa_cons (pe_ix ix_list (pv 0) pe_int (fun _ _ => rfl)) (pa_cons (pe_ix ix_list (pv 0) pe_int (fun _ _ => rfl)) (pa_cons (pe_ix ix_list (pv 0) pe_int (fun _ _ => rfl)) pa_nil))) (pk_cons (pe_ix ix_list (pv 0) pe_int (fun _ _ => rfl)) (pk_cons (pe_ix ix_list (pv 0) pe_int (fun _ _ => rfl)) (pk_cons (pe_ix ix_list (pv 0) pe_int (fun _ _ => rfl)) pk_nil)))))), ?_⟩
    refine ⟨_, rfl, _, _, 0, _, rfl, rfl, hl, rfl, _, rfl, _, _, 1, _, rfl, rfl, hl, rfl, _, rfl, _, _, 2, _, rfl, rfl, hl, rfl, _, rfl, _, _, 3, _, rfl, rfl, hl, rfl, _, rfl, _, _, 4, _, rfl, rfl, hl, rfl, _, rfl, _, _, 5, _, rfl, rfl, hl, rfl, rfl, rfl, fun x dx hx hdx ne => ?_⟩
    refine ⟨x, dx, z, rfl, upd_same, fun v hv => (odd v hv).same (made_odd hx hdx ne), fun hf H' hk e => ⟨rfl, k hf x dx H' hx hk (made_same hx hdx e)⟩, fun i v hf d H' e hd => ke i v hf d H' ((made_odd hx hdx ne).trans e) hd⟩
abbrev s__law_text : Stmt := top 25
theorem sc__law_text : FnScope ["_law_row", "_law_told", "_law_word", "_law_place", "_law_usual"] ["_law_row"] (defScope s__law_text) := ⟨rfl, rfl, rfl, by decide +kernel, rfl, by decide +kernel, by decide +kernel⟩
theorem h_law_text (B : Blts mg) (F : FunAt K mg "_law_text" "_law_text" s__law_text) : Has P w K mg base "_law_text" 1 ["_law_row"] (spText K) := by
  refine has_of F sc__law_text (fun _ _ _ _ _ _ us hl => match us, hl with | [_], _ => rfl) (fun vs H Q E h => ?_) (fun f cdv A outer s H vs Q E hr h => ?_)
  · obtain ⟨l, r, rfl, _⟩ := h
    rfl
  · obtain ⟨l, r, rfl, hl, ok, k⟩ := h
    refine ⟨_, (pss_cons (ps_set (i := 1) sc__law_text.nd rfl (Or.inl rfl) (pe_lst (pa_cons (pe_callB call_reprF (by rfl) B.n_repr (by decide +kernel) (pa_cons (pe_ix ix_list (pv 0) pe_int (fun _ _ => rfl)) pa_nil)) (pa_cons (pe_callTy call_str_int (by rfl) B.n_str (by decide +kernel) (pa_cons (pe_ix ix_list (pv 0) pe_int (fun _ _ => rfl)) pa_nil)) (pa_cons (pe_callTy call_str_int (by rfl) B.n_str (by decide +kernel) (pa_cons (pe_ix ix_list (pv 0) pe_int (fun _ _ => rfl)) pa_nil)) pa_nil)))))
      (pss_cons (ps_for PassesOwn.never rfl (pi_list (pe_lst (pa_cons (pe_tup (pa_cons pe_str (pa_cons pe_int (pa_cons pe_non pa_nil)))) (pa_cons (pe_tup (pa_cons pe_str (pa_cons pe_int (pa_cons pe_non pa_nil)))) (pa_cons (pe_tup (pa_cons pe_str (pa_cons pe_int (pa_cons pe_int pa_nil)))) pa_nil))))) (pg_tup rfl (pgs_cons (pg_name (i := 2) sc__law_text.nd rfl (Or.inl rfl)) (pgs_cons (pg_name (i := 3) sc__law_text.nd rfl (Or.inl rfl)) (pgs_cons (pg_name (i := 4) sc__law_text.nd rfl (Or.inl rfl)) pgs_nil))))
        (pss_one (ps_if (pt_cmpR op_ne (pe_ix ix_list (pv 0) (pv 3) (fun _ _ => rfl)) (pv 4) (by first | exact nomark _ | rfl)) (pss_one (ps_expr (pe_bm PySem.F.plainAttrs_list PySem.F.slot_list_append PySem.F.type_list_append mt_append (pv 1) (pa_cons (pe_op op_add_str (pv 2) (pe_callB call_reprF (by rfl) B.n_repr (by decide +kernel) (pa_cons (pe_ix ix_list (pv 0) (pv 3) (fun _ _ => rfl)) pa_nil))) pa_nil))))
          pss_nil)))
      (pss_one (ps_ret (pe_op op_add_str (pe_op op_add_str pe_str (pe_join pe_str (pv 1))) pe_str))))), ?_⟩
    have f1 := rep_len ok.name
    have f2 := num_len ok.takes.1 (by have := ok.takes.2; omega)
    have f3 := num_len ok.makes.1 (by have := ok.makes.2; omega)
    have big : ∀ n : Nat, n ≤ 1000 → n ≤ sizeLine := fun n h => Nat.le_trans h (by decide)
    refine ⟨_, rfl, _, _, 0, _, rfl, rfl, hl, rfl, .inl ⟨_, rfl, big _ (by omega), _, rfl, _, _, 1, _, rfl, rfl, hl, rfl, _, rfl, small_log ok.takes.1 (by have := ok.takes.2; omega), _, rfl, _, _, 2, _, rfl, rfl, hl, rfl, _, rfl, small_log ok.makes.1 (by have := ok.makes.2; omega), (by show 3 ≤ sizeLine; decide), fun p np => ?_⟩⟩
    have w0 : Ws p H (upd H p (.lst ((kw3 r).map V.str))) (kw3 r) := ⟨upd_same, fun b o e => by rw [upd_ne (ne_of_none e np)]; exact e⟩
    refine next_of ?_
    dsimp only
    refine ⟨(by show 3 ≤ sizeLine; decide), fun t1 n1 => ⟨(by show 3 ≤ sizeLine; decide), fun t2 n2 => ⟨(by show 3 ≤ sizeLine; decide), fun t3 n3 => ⟨(by show 3 ≤ sizeLine; decide), fun q nq => ?_⟩⟩⟩⟩
    have np1 : p ≠ t1 := ne_of_none w0.1 n1
    have w1 := (upd_ne (o := .tup [.str "back=", .int 3, .non]) np1).trans w0.1
    have np2 : p ≠ t2 := ne_of_none w1 n2
    have w2 := (upd_ne (o := .tup [.str "mirror=", .int 4, .non]) np2).trans w1
    have np3 : p ≠ t3 := ne_of_none w2 n3
    have w3 := (upd_ne (o := .tup [.str "yarn=", .int 5, .int 1]) np3).trans w2
    have hpq : p ≠ q := ne_of_none w3 nq
    have w4 := (upd_ne (o := .lst [.ref t1, .ref t2, .ref t3]) hpq).trans w3
    let H5 : Hp := upd (upd (upd (upd (upd H p (.lst ((kw3 r).map V.str))) t1 (.tup [.str "back=", .int 3, .non])) t2 (.tup [.str "mirror=", .int 4, .non])) t3 (.tup [.str "yarn=", .int 5, .int 1])) q (.lst [.ref t1, .ref t2, .ref t3])
    have s5 : Same H H5 := ((((Same.new np).trans (Same.new n1)).trans (Same.new n2)).trans (Same.new n3)).trans (Same.new nq)
    have a1 : H5 t1 = some (.tup [.str "back=", .int 3, .non]) := (((Same.new n2).trans (Same.new n3)).trans (Same.new nq)) _ _ upd_same
    have a2 : H5 t2 = some (.tup [.str "mirror=", .int 4, .non]) := ((Same.new n3).trans (Same.new nq)) _ _ upd_same
    have a3 : H5 t3 = some (.tup [.str "yarn=", .int 5, .int 1]) := (Same.new nq) _ _ upd_same
    -- what is tracked behind a turn
    have old : ∀ H', But p H5 H' → Same H H' := fun H' e b o h => e b o (s5 b o h) (ne_of_none h np)
    have few : ∀ i, ((upTo r i).map V.str).length < sizeLine := fun i => by
      rw [List.length_map]
      exact Nat.lt_of_le_of_lt (upTo_few r i) (by decide)
    -- one word more
    have turn : ∀ (i : Nat) (H' : Hp) (x : Str), But p H5 H' → H' p = some (.lst ((upTo r i).map V.str)) → upTo r (i + 1) = upTo r i ++ [x] → But p H5 (upd H' p (.lst ((upTo r i).map V.str ++ [.str x]))) ∧ (upd H' p (.lst ((upTo r i).map V.str ++ [.str x]))) p = some (.lst ((upTo r (i + 1)).map V.str)) := fun i H' x e hp' hu =>
      ⟨fun b o h n => by rw [upd_ne n]; exact e b o h n, by rw [upd_same, hu, List.map_append]; rfl⟩
    refine ⟨q, rfl, ⟨_, SqL.of upd_same⟩, for_list (K := K) (a := q) (xs := [.ref t1, .ref t2, .ref t3]) (fun i σ H' => ∃ v2 v3 v4, σ = [some (.ref l), some (.ref p), v2, v3, v4] ∧ But p H5 H' ∧ H' p = some (.lst ((upTo r i).map V.str)))
      ⟨none, none, none, rfl, But.refl, w4⟩ (fun i σ H' _ ⟨_, _, _, _, e, _⟩ => SqL.of (e _ _ upd_same hpq.symm)) ?_ ?_⟩
    · rintro i x σ H' hi ⟨v2, v3, v4, rfl, e, hp'⟩
      have hl' : SqL K H' l (rowV r) := (old H' e).seq hl
      match i, hi with
      | 0, hi =>
        cases (Option.some.inj hi : V.ref t1 = x)
        refine ⟨t1, _, rfl, SqT.of (e _ _ a1 np1.symm), rfl, _, _, rfl, _, _, rfl, _, _, rfl, rfl, _, rfl, _, rfl, l, _, 3, _, rfl, rfl, hl', rfl, _, rfl, ?_, _, rfl, ite2 (fun c => ?_) (fun c => ?_)⟩
        · cases r.back <;> rfl
        · obtain ⟨z, hb⟩ : ∃ z, r.back = some z := by
            cases hb : r.back with
            | none => simp [hb, ov] at c
            | some z => exact ⟨z, rfl⟩
          have fz := rep_len (ok.back z hb)
          obtain ⟨g1, g2⟩ := turn 0 H' ("back=" ++ reprText z) e hp' (by simp [upTo, hb, kwO])
          refine ⟨_, rfl, .inl ⟨rfl, _, SqL.of hp'⟩, _, rfl, _, rfl, _, rfl, l, _, 3, _, rfl, rfl, hl', rfl, .inl ⟨z, by show [ov r.back] = _; rw [hb]; rfl, big _ (by omega), _, _, rfl, rfl, ?_, p, _, _, rfl, rfl, hp', few 0, _, _, _, rfl, g1, g2⟩⟩
          have : ("back=" : Str).length = 5 := rfl
          exact big _ (by omega)
        · have hb : r.back = none := by
            cases hb : r.back with
            | none => rfl
            | some z => simp [hb, ov] at c
          exact ⟨_, _, _, rfl, e, by rw [hp']; simp [upTo, hb, kwO]⟩
      | 1, hi =>
        cases (Option.some.inj hi : V.ref t2 = x)
        refine ⟨t2, _, rfl, SqT.of (e _ _ a2 np2.symm), rfl, _, _, rfl, _, _, rfl, _, _, rfl, rfl, _, rfl, _, rfl, l, _, 4, _, rfl, rfl, hl', rfl, _, rfl, ?_, _, rfl, ite2 (fun c => ?_) (fun c => ?_)⟩
        · cases r.mirror <;> rfl
        · obtain ⟨z, hb⟩ : ∃ z, r.mirror = some z := by
            cases hb : r.mirror with
            | none => simp [hb, ov] at c
            | some z => exact ⟨z, rfl⟩
          have fz := rep_len (ok.mirror z hb)
          obtain ⟨g1, g2⟩ := turn 1 H' ("mirror=" ++ reprText z) e hp' (by simp [upTo, hb, kwO])
          refine ⟨_, rfl, .inl ⟨rfl, _, SqL.of hp'⟩, _, rfl, _, rfl, _, rfl, l, _, 4, _, rfl, rfl, hl', rfl, .inl ⟨z, by show [ov r.mirror] = _; rw [hb]; rfl, big _ (by omega), _, _, rfl, rfl, ?_, p, _, _, rfl, rfl, hp', few 1, _, _, _, rfl, g1, g2⟩⟩
          have : ("mirror=" : Str).length = 7 := rfl
          exact big _ (by omega)
        · have hb : r.mirror = none := by
            cases hb : r.mirror with
            | none => rfl
            | some z => simp [hb, ov] at c
          exact ⟨_, _, _, rfl, e, by rw [hp']; simp [upTo, hb, kwO]⟩
      | 2, hi =>
        cases (Option.some.inj hi : V.ref t3 = x)
        refine ⟨t3, _, rfl, SqT.of (e _ _ a3 np3.symm), rfl, _, _, rfl, _, _, rfl, _, _, rfl, rfl, _, rfl, _, rfl, l, _, 5, _, rfl, rfl, hl', rfl, _, rfl, rfl, _, rfl, ite2 (fun c => ?_) (fun c => ?_)⟩
        · have hy : ¬ r.yarn = 1 := by simpa using c
          have fz := num_len ok.yarn.1 ok.yarn.2
          obtain ⟨g1, g2⟩ := turn 2 H' ("yarn=" ++ num r.yarn) e hp' (by simp [upTo, kws, kwY, hy])
          refine ⟨_, rfl, .inl ⟨rfl, _, SqL.of hp'⟩, _, rfl, _, rfl, _, rfl, l, _, 5, _, rfl, rfl, hl', rfl, .inr (.inl ⟨_, rfl, small_log ok.yarn.1 ok.yarn.2, _, num r.yarn, rfl, rfl, ?_, p, _, _, rfl, rfl, hp', few 2, _, _, _, rfl, g1, g2⟩)⟩
          have : ("yarn=" : Str).length = 5 := rfl
          exact big _ (by omega)
        · have hy : r.yarn = 1 := by simpa using c
          exact ⟨_, _, _, rfl, e, by rw [hp']; simp [upTo, kws, kwY, hy]⟩
      | n + 3, hi => simp at hi
    · rintro σ H' ⟨v2, v3, v4, rfl, e, hp'⟩
      have jl : (Txt.join ", " (kws r)).length ≤ 700 := by
        rw [show Txt.join (", " : Str) (kws r) = Str.join ", " (kws r) from StrLaws.glued_eq_join _ _]
        exact Nat.le_trans (StrLaws.join_length_le _ _) (Nat.le_trans (kws_sum ok) (by decide))
      have c1 : ("Kind(" : Str).length = 5 := rfl
      have c2 : (")" : Str).length = 1 := rfl
      refine ⟨⟨_, rfl⟩, _, rfl, ", ", p, kws r, rfl, rfl, .inl (SqL.of hp'), Nat.le_trans (kws_sum ok) (by decide), _, _, rfl, rfl, big _ (by omega), _, _, rfl, rfl, ?_, k H' (old H' e)⟩
      rw [Str.length_append]
      exact big _ (by omega)
end
end N

set_option maxHeartbeats 4000000
namespace N
open PySem L2
def spIsKind (K : PySem.W.Frag) (C : Addr) : Sp := fun vs H Q _ => ∃ (a l : Addr) (r : Row), vs = [.ref a, .ref l] ∧ KindAt C H a r ∧ SqL K H l (rowV r) ∧ KindOk r ∧ ∀ H', Same H H' → Q (.bl true) H'
theorem fine_row {r : Row} (ok : KindOk r) : fineAll (rowD r) = true ∧ wtAll (rowD r) ≤ 7000 := by
  have o : ∀ o : Option Str, (∀ x, o = some x → NameOk x) → fine (od o) = true ∧ wt (od o) ≤ 82 := fun o h => by
    cases o with
    | none => exact ⟨rfl, by decide⟩
    | some s => exact ⟨(h s rfl).sign, by have := (h s rfl).2.1; show 10 * s.length + 2 ≤ 82; omega⟩
  obtain ⟨b1, b2⟩ := o _ ok.back
  obtain ⟨m1, m2⟩ := o _ ok.mirror
  have n1 : fine (.str r.name) = true := ok.name.sign
  have n2 := ok.name.2.1
  have t1 : fine (.int r.takes) = true := decide_eq_true (small_log ok.takes.1 (by have := ok.takes.2; omega))
  have k1 : fine (.int r.makes) = true := decide_eq_true (small_log ok.makes.1 (by have := ok.makes.2; omega))
  have y1 : fine (.int r.yarn) = true := decide_eq_true (small_log ok.yarn.1 ok.yarn.2)
  refine ⟨by simp [rowD, fineAll, b1, m1, n1, t1, k1, y1], ?_⟩
  simp only [rowD, wtAll, wt]
  omega
theorem depth_row (r : Row) : PyData.depthAll (rowD r) = 0 := by
  have o : ∀ o : Option Str, PyData.depth (od o) = 0 := fun o => by cases o <;> rfl
  simp [rowD, PyData.depthAll, PyData.depth, o]
/-- what a place of a row refuses -/
def badAt : Nat → V → Prop
  | 0, v => goodN v = false
  | 1, v => goodI 6 v = false
  | 2, v => goodI 6 v = false
  | 5, v => goodI 999 v = false
  | _, v => goodO v = false
def spWrong : Sp := fun vs H Q _ => ∃ (p : Addr) (n : Nat), vs = [.ref p, .int n] ∧ n ≤ 5 ∧ Pot H p ∧ ∀ v H', Odd H' v → badAt n v → Pot H' p → But p H H' → Q v H'
def wrongN (a1 a2 a3 : Addr) : List V := [.str "", .str "abcdefghi", .str "A", .str "k2", .str "k p", .str "k-", .int 0, .bl true, .ref a1, .ref a2, .ref a3, .str "kP"]
def wrongI (a1 a2 a3 : Addr) (y : Int) : List V := [.non, .bl true, .bl false, .int (-1), .str "1", .ref a1, .ref a2, .ref a3, .int (10 ^ 20), .int y]
theorem wrongN_ok {H : Hp} {a1 a2 a3 : Addr} (h1 : H a1 = some (.lst [])) (h2 : H a2 = some (.tup [.str "k"])) (h3 : H a3 = some (.dK [])) {v : V} (hv : v ∈ wrongN a1 a2 a3) : Odd H v ∧ goodN v = false ∧ goodO v = false := by
  have st : ∀ s : Str, (decide (s.length ≤ 100) && (s.cps.all fun c => decide (c < 0x110000)) && !decide (NameOk s)) = true → Odd H (.str s) ∧ goodN (.str s) = false ∧ goodO (.str s) = false := fun s h => by
    simp only [Bool.and_eq_true, decide_eq_true_eq, Bool.not_eq_true', decide_eq_false_iff_not] at h
    exact ⟨.str s h.1.1 h.1.2, decide_eq_false h.2, decide_eq_false h.2⟩
  simp only [wrongN, List.mem_cons, List.mem_nil_iff, or_false] at hv
  rcases hv with rfl | rfl | rfl | rfl | rfl | rfl | rfl | rfl | rfl | rfl | rfl | rfl
  · exact st _ (by decide +kernel)
  · exact st _ (by decide +kernel)
  · exact st _ (by decide +kernel)
  · exact st _ (by decide +kernel)
  · exact st _ (by decide +kernel)
  · exact st _ (by decide +kernel)
  · exact ⟨.int 0 (by decide), rfl, rfl⟩
  · exact ⟨.bl true, rfl, rfl⟩
  · exact ⟨.lst h1, rfl, rfl⟩
  · exact ⟨.tupS "k" h2 (by decide +kernel) (by decide +kernel), rfl, rfl⟩
  · exact ⟨.dic h3, rfl, rfl⟩
  · exact st _ (by decide +kernel)
theorem wrongI_ok {H : Hp} {a1 a2 a3 : Addr} {y m : Int} (h1 : H a1 = some (.lst [])) (h2 : H a2 = some (.tup [.int 1])) (h3 : H a3 = some (.dK [])) (hm : m = 6 ∨ m = 999) (hy : m < y) (hy2 : y ≤ 1000) {v : V} (hv : v ∈ wrongI a1 a2 a3 y) : Odd H v ∧ goodI m v = false := by
  simp only [wrongI, List.mem_cons, List.mem_nil_iff, or_false] at hv
  rcases hv with rfl | rfl | rfl | rfl | rfl | rfl | rfl | rfl | rfl | rfl
  · exact ⟨.non, rfl⟩
  · exact ⟨.bl true, rfl⟩
  · exact ⟨.bl false, rfl⟩
  · exact ⟨.int _ (by decide), rfl⟩
  · exact ⟨.str "1" (by decide +kernel) (by decide +kernel), rfl⟩
  · exact ⟨.lst h1, rfl⟩
  · exact ⟨.tupI 1 h2 (by decide), rfl⟩
  · exact ⟨.dic h3, rfl⟩
  · refine ⟨.int _ (by decide +kernel), ?_⟩
    rcases hm with rfl | rfl <;> decide +kernel
  · refine ⟨.int _ ?_, ?_⟩
    · have h : y.natAbs < 2 ^ 11 := by rcases hm with rfl | rfl <;> omega
      by_cases z : y.natAbs = 0
      · rw [z]; decide
      · exact Nat.lt_of_lt_of_le ((Nat.log2_lt z).mpr h) (by decide)
    · show (decide (0 ≤ y) && decide (y ≤ m)) = false
      rw [decide_eq_false (by omega : ¬ y ≤ m), Bool.and_false]
section
variable {P : Program} {w : World} {K : PySem.W.Frag} {mg : Str → Option Value} {base : Heap} {C : Addr} {Cs : Nat → Addr}
abbrev s__law_is_kind : Stmt := top 26
theorem sc__law_is_kind : FnScope ["_law_one", "_law_row", "_law_told"] ["_law_one", "_law_row"] (defScope s__law_is_kind) := ⟨rfl, rfl, rfl, by decide +kernel, rfl, by decide +kernel, by decide +kernel⟩
theorem h_law_is_kind (B : Blts mg) (T : KindT K mg C Cs) (F : FunAt K mg "_law_is_kind" "_law_is_kind" s__law_is_kind) (p1 : PK' P w K mg base C "name" fun r => .str r.name) (p2 : PK' P w K mg base C "takes" fun r => .int r.takes) (p3 : PK' P w K mg base C "makes" fun r => .int r.makes) (p4 : PK' P w K mg base C "back" fun r => ov r.back)
    (p5 : PK' P w K mg base C "mirror" fun r => ov r.mirror) (p6 : PK' P w K mg base C "yarn" fun r => .int r.yarn) (hR : HasM P w K mg base C "__repr__" 1 ["self"] (spReprK C)) (h_law_text : Has P w K mg base "_law_text" 1 ["_law_row"] (spText K)) :
    HasG P w K mg base "_law_is_kind" 3 ["_law_one", "_law_row"] (spIsKind K C) := by
  refine hasG_of F sc__law_is_kind (fun _ _ _ _ _ _ us hl => match us, hl with | [_, _], _ => rfl) (fun vs H Q E h => ?_) (fun f cdv A outer s H vs Q E hG hr h => ?_)
  · obtain ⟨a, l, r, rfl, _⟩ := h
    rfl
  · obtain ⟨a, l, r, rfl, hk, hl, ok, k⟩ := h
    obtain ⟨dx, ha⟩ := id hk
    refine ⟨_, (pss_cons (ps_set (i := 2) sc__law_is_kind.nd rfl (Or.inl rfl) (pe_lst (pa_cons (pe_hasP p1 T.cl (hr.mono (by decide)) (pv 0)) (pa_cons (pe_hasP p2 T.cl (hr.mono (by decide)) (pv 0)) (pa_cons (pe_hasP p3 T.cl (hr.mono (by decide)) (pv 0)) (pa_cons (pe_hasP p4 T.cl (hr.mono (by decide)) (pv 0)) (pa_cons (pe_hasP p5 T.cl (hr.mono (by decide)) (pv 0)) (pa_cons (pe_hasP p6 T.cl (hr.mono (by decide)) (pv 0)) pa_nil))))))))
      (pss_one (ps_ret (pe_and (pe_cmpR op_eq (pe_callB (call_reprD (B := 8) hG (Nat.lt_of_le_of_lt (Nat.add_le_add_left (by decide) _) hr.units)) (by rfl) B.n_repr (by decide +kernel) (pa_cons (pv 2) pa_nil)) (pe_callB (call_reprD (B := 8) hG (Nat.lt_of_le_of_lt (Nat.add_le_add_left (by decide) _) hr.units)) (by rfl) B.n_repr (by decide +kernel) (pa_cons (pv 1) pa_nil)) (by first | exact nomark _ | rfl)) (pe_and (pe_cmpR op_eq (pe_callB (call_reprKind hR (hr.mono (by decide))) (by rfl) B.n_repr (by decide +kernel) (pa_cons (pv 0) pa_nil)) (pe_has h_law_text (hr.mono (by decide)) (pa_cons (pv 1) pa_nil)) (by first | exact nomark _ | rfl)) (pe_one (pe_callB call_isi (by rfl) B.n_isinstance (by decide +kernel) (pa_cons (pv 0) (pa_cons (pe_glob (v := .ref C) rfl T.g rfl) pa_nil))))))))), ?_⟩
    obtain ⟨fr, fw⟩ := fine_row ok
    refine ⟨_, rfl, a, dx, _, rfl, ha, a, r, rfl, hk, _, rfl, a, dx, _, rfl, ha, a, r, rfl, hk, _, rfl, a, dx, _, rfl, ha, a, r, rfl, hk, _, rfl, a, dx, _, rfl, ha, a, r, rfl, hk, _, rfl, a, dx, _, rfl, ha, a, r, rfl, hk, _, rfl, a, dx, _, rfl, ha, a, r, rfl, hk, (by show 6 ≤ sizeLine; decide), fun p np => ?_⟩
    have s1 : Same H (upd H p (.lst (rowV r))) := Same.new np
    have dp : ∀ q, SqL K (upd H p (.lst (rowV r))) q (rowV r) → Dp K (upd H p (.lst (rowV r))) (.ref q) (.list (rowD r)) := fun q h => .lst h (dp_row r)
    have sh : (PyData.list (rowD r)).showable = true := (fine_ok (.list (rowD r)) fr).1
    have de : (PyData.list (rowD r)).depth ≤ 8 := by
      show PyData.depthAll (rowD r) + 1 ≤ 8
      rw [depth_row]
      decide
    have sz : (PyData.list (rowD r)).shown.length ≤ sizeLine := fine_size (d := .list (rowD r)) fr (by show wtAll (rowD r) + 2 ≤ 1000000; omega)
    refine ⟨_, rfl, _, _, rfl, dp p (SqL.of upd_same), sh, de, sz, _, rfl, _, _, rfl, dp l (s1.seq hl), sh, de, sz, rfl, _, rfl, ?_⟩
    refine ite2 (fun _ => ?_) (fun c => absurd (by simp) c)
    refine ⟨_, rfl, a, dx, _, rfl, s1 _ _ ha, a, r, rfl, hk.same s1, ok, fun H2 s2 => ⟨_, rfl, _, rfl, l, r, rfl, (s1.trans s2).seq hl, ok, fun H3 s3 => ⟨rfl, _, rfl, ?_⟩⟩⟩
    refine ite2 (fun _ => ?_) (fun c => absurd (by simp) c)
    exact ⟨_, rfl, _, _, _, _, true, rfl, .own C, T.own.ty (((s1.trans s2).trans s3) _ _ ha), kit_self, k _ ((s1.trans s2).trans s3)⟩
abbrev s__law_wrong : Stmt := top 28
theorem sc__law_wrong : FnScope ["_law_pot_here", "_law_place", "_law_some"] ["_law_pot_here", "_law_place"] (defScope s__law_wrong) := ⟨rfl, rfl, rfl, by decide +kernel, rfl, by decide +kernel, by decide +kernel⟩
theorem h_law_wrong (F : FunAt K mg "_law_wrong" "_law_wrong" s__law_wrong) (h_law_pick : Has P w K mg base "_law_pick" 2 ["_law_pot_here", "_law_some"] (spPick K)) : Has P w K mg base "_law_wrong" 3 ["_law_pot_here", "_law_place"] spWrong := by
  refine has_of F sc__law_wrong (fun _ _ _ _ _ _ us hl => match us, hl with | [_, _], _ => rfl) (fun vs H Q E h => ?_) (fun f cdv A outer s H vs Q E hr h => ?_)
  · obtain ⟨p, n, rfl, _⟩ := h
    rfl
  · obtain ⟨p, n, rfl, hn, hp, k⟩ := h
    refine ⟨_, (pss_cons (ps_if (pt_cmpR op_in_seq (pv 1) (pe_lst (pa_cons pe_int (pa_cons pe_int (pa_cons pe_int pa_nil)))) (by first | exact nomark _ | rfl)) (pss_cons (ps_set (i := 2) sc__law_wrong.nd rfl (Or.inl rfl) (pe_lst (pa_cons pe_str (pa_cons pe_str (pa_cons pe_str (pa_cons pe_str (pa_cons pe_str (pa_cons pe_str (pa_cons pe_int (pa_cons pe_bl (pa_cons (pe_lst pa_nil) (pa_cons (pe_tup (pa_cons pe_str pa_nil)) (pa_cons pe_dnewK (pa_cons pe_str pa_nil))))))))))))))
        (pss_one (ps_ret (pe_has h_law_pick (hr.mono (by decide)) (pa_cons (pv 0) (pa_cons (pe_ifExp (pt_cmpR op_eq (pv 1) pe_int (by first | exact nomark _ | rfl)) (pe_op op_cat (pv 2) (pe_lst (pa_cons pe_non pa_nil))) (pv 2)) pa_nil))))))
        pss_nil)
      (pss_one (ps_ret (pe_has h_law_pick (hr.mono (by decide)) (pa_cons (pv 0) (pa_cons (pe_lst (pa_cons pe_non (pa_cons pe_bl (pa_cons pe_bl (pa_cons (pe_un un_neg pe_int) (pa_cons pe_str (pa_cons (pe_lst pa_nil) (pa_cons (pe_tup (pa_cons pe_int pa_nil)) (pa_cons pe_dnewK (pa_cons (pe_op op_pow pe_int pe_int) (pa_cons (pe_ifExp (pt_cmpR op_eq (pv 1) pe_int (by first | exact nomark _ | rfl)) pe_int pe_int) pa_nil))))))))))) pa_nil)))))), ?_⟩
    refine ⟨_, rfl, (by show 3 ≤ sizeLine; decide), fun l0 nl0 => ⟨_, _, rfl, .inl (SqL.of upd_same), rfl, by decide, _, rfl, ?_⟩⟩
    have hp0 := hp.new (o := .lst [.int 0, .int 3, .int 4]) nl0
    have e0 : But p H _ := But.new (o := .lst [.int 0, .int 3, .int 4]) nl0
    refine ite2 (fun c => ?_) (fun c => ?_)
    · -- a name's place
      refine ⟨(by show 0 ≤ sizeLine; decide), fun a1 n1 => ⟨(by show 1 ≤ sizeLine; decide), fun a2 n2 => ?_⟩⟩
      intro a3 n3
      refine ⟨(by show 12 ≤ sizeLine; decide), fun l nl => ?_⟩
      have hp1 := hp0.new (o := .lst []) n1
      have hp2 := hp1.new (o := .tup [.str "k"]) n2
      have hp3 := hp2.new (o := .dK []) n3
      have hp4 := hp3.new (o := .lst (wrongN a1 a2 a3)) nl
      have e4 : But p H _ := (((e0.trans (But.new (o := .lst []) n1)).trans (But.new (o := .tup [.str "k"]) n2)).trans (But.new (o := .dK []) n3)).trans (But.new (o := .lst (wrongN a1 a2 a3)) nl)
      have k1 := (((But.new (p := p) (o := .tup [.str "k"]) n2).trans (But.new (o := .dK []) n3)).trans (But.new (o := .lst (wrongN a1 a2 a3)) nl)) a1 _ upd_same (hp0.ne n1)
      have k2 := ((But.new (p := p) (o := .dK []) n3).trans (But.new (o := .lst (wrongN a1 a2 a3)) nl)) a2 _ upd_same (hp1.ne n2)
      have k3 := (But.new (p := p) (o := .lst (wrongN a1 a2 a3)) nl) a3 _ upd_same (hp2.ne n3)
      have lp := hp3.ne nl
      refine ⟨_, rfl, _, rfl, rfl, _, rfl, ite2 (fun c2 => ?_) (fun c2 => ?_)⟩
      · -- the name: None, too
        have n0 : n = 0 := by simpa using c2
        subst n0
        refine ⟨_, rfl, (by show 1 ≤ sizeLine; decide), fun q nq => ⟨l, q, _, _, rfl, rfl, (upd_ne (ne_of_none upd_same nq)).trans upd_same, upd_same, (by show 12 + 1 ≤ sizeLine; decide), fun z nz => ?_⟩⟩
        have hp5 := hp4.new (o := .lst [.non]) nq
        have hp6 := hp5.new (o := .lst (wrongN a1 a2 a3 ++ [.non])) nz
        have e6 : But p _ _ := (But.new (p := p) (o := .lst [.non]) nq).trans (But.new (o := .lst (wrongN a1 a2 a3 ++ [.non])) nz)
        refine ⟨p, z, _, rfl, hp6, SqL.of upd_same, hp5.ne nz, by simp [wrongN], (by show 13 < 1000000; decide), fun v H' hv hp' e' => ?_⟩
        have e7 := e6.trans e'
        rcases List.mem_append.mp hv with hv | hv
        · obtain ⟨o, g, _⟩ := wrongN_ok (e7 _ _ k1 (hp0.ne n1)) (e7 _ _ k2 (hp1.ne n2)) (e7 _ _ k3 (hp2.ne n3)) hv
          exact k v H' o g hp' (e4.trans e7)
        · rw [List.mem_singleton.mp hv]
          exact k _ H' .non rfl hp' (e4.trans e7)
      · have n0 : n ≠ 0 := by simpa using c2
        refine ⟨_, rfl, p, l, _, rfl, hp4, SqL.of upd_same, lp, by simp [wrongN], (by show 12 < 1000000; decide), fun v H' hv hp' e' => ?_⟩
        obtain ⟨o, _, g⟩ := wrongN_ok (e' _ _ k1 (hp0.ne n1)) (e' _ _ k2 (hp1.ne n2)) (e' _ _ k3 (hp2.ne n3)) hv
        refine k v H' o ?_ hp' (e4.trans e')
        match n, hn, n0, c with
        | 0, _, n0, _ => exact absurd rfl n0
        | 1, _, _, c => exact absurd c (by decide)
        | 2, _, _, c => exact absurd c (by decide)
        | 3, _, _, _ => exact g
        | 4, _, _, _ => exact g
        | 5, _, _, c => exact absurd c (by decide)
    · -- a number's place
      refine ⟨_, rfl, _, rfl, (by show 0 ≤ sizeLine; decide), fun a1 n1 => ⟨(by show 1 ≤ sizeLine; decide), fun a2 n2 => ?_⟩⟩
      intro a3 n3
      have hp1 := hp0.new (o := .lst []) n1
      have hp2 := hp1.new (o := .tup [.int 1]) n2
      have hp3 := hp2.new (o := .dK []) n3
      have e3 : But p H _ := ((e0.trans (But.new (o := .lst []) n1)).trans (But.new (o := .tup [.int 1]) n2)).trans (But.new (o := .dK []) n3)
      have k1 := ((But.new (p := p) (o := .tup [.int 1]) n2).trans (But.new (o := .dK []) n3)) a1 _ upd_same (hp0.ne n1)
      have k2 := (But.new (p := p) (o := .dK []) n3) a2 _ upd_same (hp1.ne n2)
      have k3 : (upd (upd (upd (upd H l0 (.lst [.int 0, .int 3, .int 4])) a1 (.lst [])) a2 (.tup [.int 1])) a3 (.dK [])) a3 = some (.dK []) := upd_same
      -- the list, and what is picked of it
      have fin : ∀ (y m : Int), (m = 6 ∨ m = 999) → m < y → y ≤ 1000 → (∀ v, goodI m v = false → badAt n v) → ∀ l, (upd (upd (upd (upd H l0 (.lst [.int 0, .int 3, .int 4])) a1 (.lst [])) a2 (.tup [.int 1])) a3 (.dK [])) l = none →
          spPick K [.ref p, .ref l] (upd (upd (upd (upd (upd H l0 (.lst [.int 0, .int 3, .int 4])) a1 (.lst [])) a2 (.tup [.int 1])) a3 (.dK [])) l (.lst (wrongI a1 a2 a3 y))) Q E0 := fun y m hm h1 h2 hb l nl => by
        refine ⟨p, l, _, rfl, hp3.new nl, SqL.of upd_same, hp3.ne nl, by simp [wrongI], (by show 10 < 1000000; decide), fun v H' hv hp' e' => ?_⟩
        have e'' := (But.new (p := p) (o := .lst (wrongI a1 a2 a3 y)) nl).trans e'
        obtain ⟨o, g⟩ := wrongI_ok (e'' _ _ k1 (hp0.ne n1)) (e'' _ _ k2 (hp1.ne n2)) (e'' _ _ k3 (hp2.ne n3)) hm h1 h2 hv
        exact k v H' o (hb v g) hp' (e3.trans e'')
      refine ⟨_, _, rfl, rfl, ⟨by decide, by decide, by decide⟩, _, rfl, rfl, _, rfl, ite2 (fun c2 => ?_) (fun c2 => ?_)⟩
      · have n5 : n = 5 := by
          have : (n : Int) = 5 := by simpa using c2
          omega
        subst n5
        exact ⟨(by show 10 ≤ sizeLine; decide), fun l nl => fin 1000 999 (.inr rfl) (by decide) (by decide) (fun v h => h) l nl⟩
      · have n5 : ¬ n = 5 := by
          have : ¬ (n : Int) = 5 := by simpa using c2
          omega
        refine ⟨(by show 10 ≤ sizeLine; decide), fun l nl => fin 7 6 (.inl rfl) (by decide) (by decide) (fun v h => ?_) l nl⟩
        match n, hn, n5, c with
        | 0, _, _, c => exact absurd (by decide) c
        | 1, _, _, _ => exact h
        | 2, _, _, _ => exact h
        | 3, _, _, c => exact absurd (by decide) c
        | 4, _, _, c => exact absurd (by decide) c
        | 5, _, n5, _ => exact absurd rfl n5
end
end N

set_option maxHeartbeats 4000000
namespace L2
open PySem PySem.Spec PyProof.Rows
/-- a comprehension with a test that changes nothing: the new list of the kept ones -/
theorem lc_filt {J : It} {n : Nat} {G : Hp → Prop} {Y : Nat → Hp → V → Hp → Prop} (w : Walk J n G Y) {g : TG} {tt : TT} {te : TE} {vs : List Nat} {σ : St} {H1 : Hp} {D : Addr} {Qd : Hp → Prop} (val : Nat → V) (keep : Nat → Bool) (nD : H1 D = none) (hn : n < 1000000)
    (hG : ∀ H, Same H1 H → G H)
    (hs : ∀ i x H H', i < n → Same H1 H → Y i H x H' → ∀ (R : V → Hp → Prop) (S : Hp → Prop), (keep i = true → ∀ H4, Same H H4 → R (val i) H4) → (keep i = false → ∀ H4, Same H H4 → S H4) →
      g x (wipe σ vs) H' fun σ2 H2 => wipe σ2 vs = wipe σ vs ∧ tt σ2 H2 fun b H3 => if b = true then te σ2 H3 R else S H3)
    (hd : ∀ H, Same H1 H → H D = some (.lst (((List.range n).filter keep).map val)) → Qd H) :
    ∃ W : Nat → Nat → Hp → Prop, (∃ m, W 0 m (upd H1 D (.lst []))) ∧ ∀ i m H, W i m H →
      (J.stop i H ∧ Qd H) ∨ (J.go i H ∧ ∃ Nx : Hp → Prop, (∀ H', Nx H' → ∃ m', m' < m ∧ W (i + 1) m' H') ∧ ∀ x H', J.yld i H x H' → g x (wipe σ vs) H' fun σ2 H2 => wipe σ2 vs = wipe σ vs ∧ tt σ2 H2 fun b H3 =>
        if b = true then te σ2 H3 fun y H4 => ∃ acc, H4 D = some (.lst acc) ∧ acc.length < sizeLine ∧ Nx (upd H4 D (.lst (acc ++ [y]))) else Nx H3) := by
  refine lc_it w (fun i H => Same H1 H ∧ H D = some (.lst (((List.range i).filter keep).map val))) ⟨fun b o h => by rw [upd_ne (ne_of_none h nD)]; exact h, upd_same⟩ (fun i H _ p => hG H p.1) ?_ (fun H p => hd H p.1 p.2)
  rintro i x H H' hi ⟨p1, p2⟩ y
  refine hs i x H H' hi p1 y (fun y' H4 => ∃ acc, H4 D = some (.lst acc) ∧ acc.length < sizeLine ∧ (Same H1 (upd H4 D (.lst (acc ++ [y']))) ∧ (upd H4 D (.lst (acc ++ [y']))) D = some (.lst (((List.range (i + 1)).filter keep).map val)))) (fun H3 => Same H1 H3 ∧ H3 D = some (.lst (((List.range (i + 1)).filter keep).map val))) (fun hk H4 s4 => ?_) (fun hk H4 s4 => ?_)
  · refine ⟨_, s4 _ _ p2, ?_, (p1.trans s4).mut nD, ?_⟩
    · rw [List.length_map]
      have l1 := List.length_filter_le keep (List.range i)
      rw [List.length_range] at l1
      exact Nat.lt_of_lt_of_le (by omega : _ < 1000000) (by decide)
    · rw [upd_same, List.range_succ, List.filter_append, List.filter_cons_of_pos hk, List.map_append]
      rfl
  · refine ⟨p1.trans s4, ?_⟩
    rw [List.range_succ, List.filter_append, List.filter_cons_of_neg (by simp [hk])]
    simpa using s4 _ _ p2
end L2
namespace N
open PySem L2
/-! ### rows that differ in one field -/
abbrev unlike (r u : Row) : Prop := PyData.eqv (.tuple (rowD r)) (.tuple (rowD u)) = false
def spOthers : Sp := fun vs H Q _ => ∃ (p l : Addr) (r : Row), vs = [.ref p, .ref l] ∧ Pot H p ∧ H l = some (.lst (rowV r)) ∧ l ≠ p ∧ KindOk r ∧ ∀ q ps us H', H q = none → H' q = some (.lst (ps.map V.ref)) →
  Paired (fun a u => H' a = some (.lst (rowV u)) ∧ KindOk u ∧ unlike r u) ps us → Pot H' p → But p H H' → Q (.ref q) H'
theorem un_name {r : Row} {x : Str} (h : ¬ x = r.name) : unlike r { r with name := x } := by
  have h' : ¬ r.name = x := fun z => h z.symm
  simp [unlike, rowD, PyData.eqv, PyData.eqvAll, h']
theorem un_takes {r : Row} {x : Int} (h : ¬ x = r.takes) : unlike r { r with takes := x } := by
  have h' : ¬ r.takes = x := fun z => h z.symm
  simp [unlike, rowD, PyData.eqv, PyData.eqvAll, h']
theorem un_makes {r : Row} {x : Int} (h : ¬ x = r.makes) : unlike r { r with makes := x } := by
  have h' : ¬ r.makes = x := fun z => h z.symm
  simp [unlike, rowD, PyData.eqv, PyData.eqvAll, h']
theorem un_yarn {r : Row} {x : Int} (h : ¬ x = r.yarn) : unlike r { r with yarn := x } := by
  have h' : ¬ r.yarn = x := fun z => h z.symm
  simp [unlike, rowD, PyData.eqv, PyData.eqvAll, h']
theorem od_eqv {a b : Option Str} (h : ¬ b = a) : PyData.eqv (od a) (od b) = false := by
  cases a <;> cases b <;> simp_all [od, PyData.eqv]
  exact fun z => h z.symm
theorem un_back {r : Row} {x : Option Str} (h : ¬ x = r.back) : unlike r { r with back := x } := by
  simp [unlike, rowD, PyData.eqv, PyData.eqvAll, od_eqv h]
theorem un_mirror {r : Row} {x : Option Str} (h : ¬ x = r.mirror) : unlike r { r with mirror := x } := by
  simp [unlike, rowD, PyData.eqv, PyData.eqvAll, od_eqv h]
theorem q_ok : NameOk "q" := by decide +kernel
theorem qq_ok : NameOk "qq" := by decide +kernel
theorem paired_snoc {α β : Type} {F : α → β → Prop} {a : α} {b : β} (h : F a b) : ∀ {l : List α} {m : List β}, Paired F l m → Paired F (l ++ [a]) (m ++ [b])
  | _, _, .nil => .cons h .nil
  | _, _, .cons x y => .cons x (paired_snoc h y)
theorem paired_imp {α β : Type} {F G : α → β → Prop} (h : ∀ a b, F a b → G a b) : ∀ {l : List α} {m : List β}, Paired F l m → Paired G l m
  | _, _, .nil => .nil
  | _, _, .cons x y => .cons (h _ _ x) (paired_imp h y)
theorem Pot.same {p : Addr} {H H' : Hp} (h : Pot H p) (e : Same H H') : Pot H' p := let ⟨a, b, q, r⟩ := h; ⟨a, b, e _ _ q, r⟩
theorem filt_mem {n : Nat} {keep : Nat → Bool} {val : Nat → V} {v : V} (h : v ∈ ((List.range n).filter keep).map val) : ∃ j, j < n ∧ keep j = true ∧ v = val j := by
  obtain ⟨j, hj, rfl⟩ := List.mem_map.mp h
  obtain ⟨h1, h2⟩ := List.mem_filter.mp hj
  exact ⟨j, List.mem_range.mp h1, h2, rfl⟩
theorem filt_len {n : Nat} {keep : Nat → Bool} {val : Nat → V} (h : n ≤ 100) : (((List.range n).filter keep).map val).length < 1000000 := by
  rw [List.length_map]
  have l1 := List.length_filter_le keep (List.range n)
  rw [List.length_range] at l1
  omega
theorem filt_ne {n : Nat} {keep : Nat → Bool} {val : Nat → V} {j : Nat} (h : j < n) (k : keep j = true) : ((List.range n).filter keep).map val ≠ [] := fun z => by
  have : val j ∈ ((List.range n).filter keep).map val := List.mem_map_of_mem (List.mem_filter.mpr ⟨List.mem_range.mpr h, k⟩)
  rw [z] at this
  cases this
def threeO (r : Row) : Nat → Option Str
  | 0 => none
  | 1 => some "q"
  | _ => some r.name
def fourI : Nat → Int
  | 0 => 0
  | 1 => 1
  | 2 => 2
  | _ => 999
theorem three_at {r : Row} {j : Nat} {x : V} (hj : j < [V.non, .str "q", .str r.name].length) (h : [V.non, .str "q", .str r.name][j]? = some x) : x = ov (threeO r j) := by
  match j, hj, h with
  | 0, _, h => exact (Option.some.inj h).symm
  | 1, _, h => exact (Option.some.inj h).symm
  | 2, _, h => exact (Option.some.inj h).symm
theorem three_ok {r : Row} (ok : KindOk r) {j : Nat} (hj : j < 3) : ∀ x, threeO r j = some x → NameOk x := by
  intro x h
  match j, hj, h with
  | 1, _, h => cases h; exact q_ok
  | 2, _, h => cases h; exact ok.name
theorem four_at {j : Nat} {x : V} (hj : j < [V.int 0, .int 1, .int 2, .int 999].length) (h : [V.int 0, .int 1, .int 2, .int 999][j]? = some x) : x = .int (fourI j) := by
  match j, hj, h with
  | 0, _, h => exact (Option.some.inj h).symm
  | 1, _, h => exact (Option.some.inj h).symm
  | 2, _, h => exact (Option.some.inj h).symm
  | 3, _, h => exact (Option.some.inj h).symm
theorem four_ok : ∀ j : Nat, 0 ≤ fourI j ∧ fourI j ≤ 999
  | 0 => by decide
  | 1 => by decide
  | 2 => by decide
  | n + 3 => by show 0 ≤ (999 : Int) ∧ (999 : Int) ≤ 999; decide
theorem ov_scal (a b : Option Str) : scal (ov a) (ov b) = true := by cases a <;> cases b <;> rfl
section
variable {P : Program} {w : World} {K : PySem.W.Frag} {mg : Str → Option Value} {base : Heap} {C : Addr} {Cs : Nat → Addr}
abbrev s__law_others : Stmt := top 27
theorem sc__law_others : FnScope ["_law_pot_here", "_law_row", "_law_found", "_law_place", "_law_other", "_law_k", "_law_word"] ["_law_pot_here", "_law_row"] (defScope s__law_others) := ⟨rfl, rfl, rfl, by decide +kernel, rfl, by decide +kernel, by decide +kernel⟩
theorem h_law_others (B : Blts mg) (F : FunAt K mg "_law_others" "_law_others" s__law_others) (h_law_pick : Has P w K mg base "_law_pick" 2 ["_law_pot_here", "_law_some"] (spPick K)) : Has P w K mg base "_law_others" 3 ["_law_pot_here", "_law_row"] spOthers := by
  refine has_of F sc__law_others (fun _ _ _ _ _ _ us hl => match us, hl with | [_, _], _ => rfl) (fun vs H Q E h => ?_) (fun f cdv A outer s H vs Q E hr h => ?_)
  · obtain ⟨p, l, r, rfl, _⟩ := h
    rfl
  · obtain ⟨p, l, r, rfl, hp, hl, hlp, ok, k⟩ := h
    refine ⟨_, (pss_cons (ps_set (i := 2) sc__law_others.nd rfl (Or.inl rfl) (pe_lst pa_nil))
      (pss_cons (ps_for PassesOwn.never rfl (pi_range1 (by rfl) B.n_range (pa_cons pe_int pa_nil)) (pg_name (i := 3) sc__law_others.nd rfl (Or.inr rfl))
        (pss_cons (ps_set (i := 4) sc__law_others.nd rfl (Or.inl rfl) (pe_callTy call_list_of (by rfl) B.n_list (by decide +kernel) (pa_cons (pv 1) pa_nil)))
        (pss_cons (ps_if (pt_cmpR op_in_seq (pv 3) (pe_lst (pa_cons pe_int (pa_cons pe_int pa_nil))) (by first | exact nomark _ | rfl)) (pss_one (ps_asg (pe_has h_law_pick (hr.mono (by decide)) (pa_cons (pv 0) (pa_cons (pe_lc (own := [("_law_k", 5)]) rfl sc__law_others.nd (pi_range2 (by rfl) B.n_range (pa_cons pe_int (pa_cons pe_int pa_nil))) (blkOk_by (own := [("_law_k", 5)]) (N := ["_law_pot_here", "_law_row", "_law_found", "_law_place", "_law_other", "_law_k", "_law_word"]) (sc := defScope s__law_others) (by decide +kernel)) (fun _ _ _ _ _ => by exact (pg_name (i := 5) sc__law_others.nd rfl (Or.inl rfl))) (fun _ _ _ _ _ => by exact (pts_one (pt_cmpR op_ne (pv 5) (pe_ix (ix_listK K) (pv 1) (pv 3) (fun _ _ => rfl)) (by first | exact nomark _ | rfl)))) (fun _ _ _ _ _ => by exact (pv 5))) pa_nil))) (pg_sub (pv 4) (pv 3) set_list)))
          (pss_one (ps_if (pt_cmpR op_eq (pv 3) pe_int (by first | exact nomark _ | rfl)) (pss_one (ps_asg (pe_has h_law_pick (hr.mono (by decide)) (pa_cons (pv 0) (pa_cons (pe_lc (own := [("_law_k", 5)]) rfl sc__law_others.nd (pi_list (pe_lst (pa_cons pe_int (pa_cons pe_int (pa_cons pe_int (pa_cons pe_int pa_nil)))))) (blkOk_by (own := [("_law_k", 5)]) (N := ["_law_pot_here", "_law_row", "_law_found", "_law_place", "_law_other", "_law_k", "_law_word"]) (sc := defScope s__law_others) (by decide +kernel)) (fun _ _ _ _ _ => by exact (pg_name (i := 5) sc__law_others.nd rfl (Or.inl rfl))) (fun _ _ _ _ _ => by exact (pts_one (pt_cmpR op_ne (pv 5) (pe_ix (ix_listK K) (pv 1) (pv 3) (fun _ _ => rfl)) (by first | exact nomark _ | rfl)))) (fun _ _ _ _ _ => by exact (pv 5))) pa_nil))) (pg_sub (pv 4) (pv 3) set_list)))
            (pss_one (ps_if (pt_cmpR op_eq (pv 3) pe_int (by first | exact nomark _ | rfl)) (pss_one (ps_asg (pe_ifExp (pt_cmpR op_ne (pe_ix ix_list (pv 1) (pv 3) (fun _ _ => rfl)) pe_str (by first | exact nomark _ | rfl)) pe_str pe_str) (pg_sub (pv 4) (pv 3) set_list)))
              (pss_one (ps_asg (pe_has h_law_pick (hr.mono (by decide)) (pa_cons (pv 0) (pa_cons (pe_lc (own := [("_law_word", 6)]) rfl sc__law_others.nd (pi_list (pe_lst (pa_cons pe_non (pa_cons pe_str (pa_cons (pe_ix ix_list (pv 1) pe_int (fun _ _ => rfl)) pa_nil))))) (blkOk_by (own := [("_law_word", 6)]) (N := ["_law_pot_here", "_law_row", "_law_found", "_law_place", "_law_other", "_law_k", "_law_word"]) (sc := defScope s__law_others) (by decide +kernel)) (fun _ _ _ _ _ => by exact (pg_name (i := 6) sc__law_others.nd rfl (Or.inl rfl))) (fun _ _ _ _ _ => by exact (pts_one (pt_cmpR op_ne (pv 6) (pe_ix (ix_listK K) (pv 1) (pv 3) (fun _ _ => rfl)) (by first | exact nomark _ | rfl)))) (fun _ _ _ _ _ => by exact (pv 6))) pa_nil))) (pg_sub (pv 4) (pv 3) set_list))))))))
        (pss_one (ps_expr (pe_bm PySem.F.plainAttrs_list PySem.F.slot_list_append PySem.F.type_list_append mt_append (pv 2) (pa_cons (pv 4) pa_nil)))))))
      (pss_one (ps_ret (pv 2))))), ?_⟩
    refine ⟨by decide, fun q nq => ?_⟩
    have qp : q ≠ p := hp.ne nq
    refine next_of ?_
    dsimp only
    refine ⟨6, rfl, by decide, by decide, for_range (n := 6) (fun i σ H' => ∃ (ps : List Addr) (us : List Row) (v3 v4 v5 v6 : Option V), σ = [some (.ref p), some (.ref l), some (.ref q), v3, v4, v5, v6] ∧ H' q = some (.lst (ps.map V.ref)) ∧ ps.length = i ∧
        Paired (fun a u => H' a = some (.lst (rowV u)) ∧ KindOk u ∧ unlike r u) ps us ∧ Pot H' p ∧ But p H H')
      ⟨[], [], none, none, none, none, rfl, upd_same, rfl, .nil, hp.new nq, But.new nq⟩ (fun i σ H1 hi h => ?_) (fun σ H1 h => ?_)⟩
    · obtain ⟨ps, us, v3, v4, v5, v6, rfl, hq, hps, hpair, hp1, e1⟩ := h
      have hl1 : H1 l = some (.lst (rowV r)) := e1 _ _ hl hlp
      refine ⟨_, rfl, _, _, rfl, .inl (SqL.of hl1), fun o no => ?_⟩
      have op : o ≠ p := hp1.ne no
      have oq : o ≠ q := (ne_of_none hq no).symm
      have hp2 := hp1.new (o := .lst (rowV r)) no
      have e12 : But p H1 _ := But.new (o := .lst (rowV r)) no
      refine next_of ?_
      dsimp only
      refine seq_cut (fun σ' H' => ∃ (u : Row) (v5 v6 : Option V), σ' = [some (.ref p), some (.ref l), some (.ref q), some (.int (0 + (i : Int))), some (.ref o), v5, v6] ∧ H' o = some (.lst (rowV u)) ∧ KindOk u ∧ unlike r u ∧ Pot H' p ∧ But p H1 H') (fun Z hZ => ?_) ?_
      · refine ⟨_, rfl, (by show 2 ≤ sizeLine; decide), fun t nt => ⟨_, _, rfl, .inl (SqL.of upd_same), rfl, by decide, _, rfl, ?_⟩⟩
        have hp3 := hp2.new (o := .lst [.int 1, .int 2]) nt
        have e13 := e12.trans (But.new (o := .lst [.int 1, .int 2]) nt)
        have ho2 : (upd H1 o (.lst (rowV r))) o = some (.lst (rowV r)) := upd_same
        have ho3 := (upd_ne (o := .lst [.int 1, .int 2]) (ne_of_none ho2 nt)).trans ho2
        have hl3 := e13 _ _ hl1 hlp
        match i, hi with
        | 0, hi =>
          refine iteF ⟨_, rfl, rfl, _, rfl, iteF ⟨_, rfl, rfl, _, rfl, iteT ?_⟩⟩
          refine ⟨_, rfl, _, rfl, l, _, 0, _, rfl, rfl, SqL.of hl3, rfl, rfl, _, rfl, ite2 (fun c => ?_) (fun c => ?_)⟩
          · exact ⟨_, rfl, _, rfl, o, _, _, 0, rfl, rfl, ho3, rfl, hZ _ _ ⟨{ r with name := "q" }, _, _, rfl, upd_same, ⟨q_ok, ok.back, ok.mirror, ok.takes, ok.makes, ok.some_, ok.yarn⟩, un_name (fun z => by simp [← z] at c), hp3.put op, But.set no e13⟩⟩
          · have z : r.name = "q" := by simpa using c
            exact ⟨_, rfl, _, rfl, o, _, _, 0, rfl, rfl, ho3, rfl, hZ _ _ ⟨{ r with name := "qq" }, _, _, rfl, upd_same, ⟨qq_ok, ok.back, ok.mirror, ok.takes, ok.makes, ok.some_, ok.yarn⟩, un_name (by rw [z]; decide +kernel), hp3.put op, But.set no e13⟩⟩
        | 1, hi =>
          refine iteT ?_
          refine ⟨_, rfl, 1, 7, rfl, ⟨by decide, by decide, by decide, by decide⟩, fun D nD => lc_filt (n := 6) walk_range (fun j => .int (1 + (j : Int))) (fun j => !decide (V.int (1 + (j : Int)) = .int r.takes)) nD (by decide) (fun _ _ => trivial) (fun j x Ha Hb hj s1 y R S hR hS => ?_) (fun H4 s4 hD => ?_)⟩
          · obtain ⟨rfl, rfl⟩ := y
            refine ⟨rfl, _, rfl, _, rfl, _, rfl, l, _, 1, _, rfl, rfl, SqL.of (s1 _ _ hl3), rfl, rfl, _, rfl, ?_⟩
            refine ite2 (fun c => ⟨_, rfl, hR c _ (Same.refl _)⟩) (fun c => hS (by simpa using c) _ (Same.refl _))
          · have dp : D ≠ p := hp3.ne nD
            have ne : ((List.range 6).filter fun j : Nat => !decide (V.int (1 + (j : Int)) = .int r.takes)).map (fun j : Nat => V.int (1 + (j : Int))) ≠ [] := by
              by_cases z : r.takes = 1
              · exact filt_ne (j := 1) (by decide) (by simp [z])
              · exact filt_ne (j := 0) (by decide) (by simp; exact fun h => z h.symm)
            refine ⟨p, D, _, rfl, hp3.same s4, SqL.of hD, dp, ne, filt_len (by decide), fun v H5 hv hp5 e5 => ?_⟩
            obtain ⟨j, hj, kj, rfl⟩ := filt_mem hv
            have e45 : But p H1 H5 := (e13.trans (But.of s4)).trans e5
            have ho5 : H5 o = some (.lst (rowV r)) := e5 _ _ (s4 _ _ ho3) op
            refine ⟨_, rfl, _, rfl, o, _, _, 1, rfl, rfl, ho5, rfl, ?_⟩
            refine hZ _ _ ⟨{ r with takes := 1 + (j : Int) }, _, _, rfl, upd_same, ⟨ok.name, ok.back, ok.mirror, ⟨by show 0 ≤ 1 + (j : Int); omega, by show 1 + (j : Int) ≤ 6; omega⟩, ok.makes, fun z => ?_, ok.yarn⟩, un_takes (by simpa using kj), hp5.put op, But.set no e45⟩
            have := z.1
            dsimp only at this
            omega
        | 2, hi =>
          refine iteT ?_
          refine ⟨_, rfl, 1, 7, rfl, ⟨by decide, by decide, by decide, by decide⟩, fun D nD => lc_filt (n := 6) walk_range (fun j => .int (1 + (j : Int))) (fun j => !decide (V.int (1 + (j : Int)) = .int r.makes)) nD (by decide) (fun _ _ => trivial) (fun j x Ha Hb hj s1 y R S hR hS => ?_) (fun H4 s4 hD => ?_)⟩
          · obtain ⟨rfl, rfl⟩ := y
            refine ⟨rfl, _, rfl, _, rfl, _, rfl, l, _, 2, _, rfl, rfl, SqL.of (s1 _ _ hl3), rfl, rfl, _, rfl, ?_⟩
            refine ite2 (fun c => ⟨_, rfl, hR c _ (Same.refl _)⟩) (fun c => hS (by simpa using c) _ (Same.refl _))
          · have dp : D ≠ p := hp3.ne nD
            have ne : ((List.range 6).filter fun j : Nat => !decide (V.int (1 + (j : Int)) = .int r.makes)).map (fun j : Nat => V.int (1 + (j : Int))) ≠ [] := by
              by_cases z : r.makes = 1
              · exact filt_ne (j := 1) (by decide) (by simp [z])
              · exact filt_ne (j := 0) (by decide) (by simp; exact fun h => z h.symm)
            refine ⟨p, D, _, rfl, hp3.same s4, SqL.of hD, dp, ne, filt_len (by decide), fun v H5 hv hp5 e5 => ?_⟩
            obtain ⟨j, hj, kj, rfl⟩ := filt_mem hv
            have e45 : But p H1 H5 := (e13.trans (But.of s4)).trans e5
            have ho5 : H5 o = some (.lst (rowV r)) := e5 _ _ (s4 _ _ ho3) op
            refine ⟨_, rfl, _, rfl, o, _, _, 2, rfl, rfl, ho5, rfl, ?_⟩
            refine hZ _ _ ⟨{ r with makes := 1 + (j : Int) }, _, _, rfl, upd_same, ⟨ok.name, ok.back, ok.mirror, ok.takes, ⟨by show 0 ≤ 1 + (j : Int); omega, by show 1 + (j : Int) ≤ 6; omega⟩, fun z => ?_, ok.yarn⟩, un_makes (by simpa using kj), hp5.put op, But.set no e45⟩
            have := z.2
            dsimp only at this
            omega
        | 3, hi =>
          refine iteF ⟨_, rfl, rfl, _, rfl, iteF ⟨_, rfl, rfl, _, rfl, iteF ?_⟩⟩
          refine ⟨_, rfl, _, rfl, l, _, 0, _, rfl, rfl, SqL.of hl3, rfl, (by show 3 ≤ sizeLine; decide), fun t2 nt2 => ⟨t2, rfl, ⟨_, SqL.of upd_same⟩, fun D nD => lc_filt (walk_list (K := K) (a := t2) (xs := [.non, .str "q", .str r.name])) (fun j => ov (threeO r j)) (fun j => !decide (ov (threeO r j) = ov r.back)) nD (by show 3 < 1000000; decide) (fun H' s' => SqL.of (s' _ _ upd_same)) (fun j x Ha Hb hj s1 y R S hR hS => ?_) (fun H4 s4 hD => ?_)⟩⟩
          · obtain ⟨rfl, hx⟩ := y
            obtain rfl := three_at hj hx
            refine ⟨rfl, _, rfl, _, rfl, _, rfl, l, _, 3, _, rfl, rfl, SqL.of (s1 _ _ ((upd_ne (ne_of_none hl3 nt2)).trans hl3)), rfl, ov_scal _ _, _, rfl, ?_⟩
            refine ite2 (fun c => ⟨_, rfl, hR c _ (Same.refl _)⟩) (fun c => hS (by simpa using c) _ (Same.refl _))
          · have hpt := hp3.new (o := .lst [.non, .str "q", .str r.name]) nt2
            have dp : D ≠ p := hpt.ne nD
            have ne : ((List.range 3).filter fun j : Nat => !decide (ov (threeO r j) = ov r.back)).map (fun j : Nat => ov (threeO r j)) ≠ [] := by
              cases z : r.back with
              | none => exact filt_ne (j := 1) (by decide) (by simp [threeO, ov])
              | some x => exact filt_ne (j := 0) (by decide) (by simp [threeO, ov])
            refine ⟨p, D, _, rfl, hpt.same s4, SqL.of hD, dp, ne, filt_len (by first | decide | (show 3 ≤ 100; decide)), fun v H5 hv hp5 e5 => ?_⟩
            obtain ⟨j, hj, kj, rfl⟩ := filt_mem hv
            have e45 : But p H1 H5 := ((e13.trans (But.new nt2)).trans (But.of s4)).trans e5
            have ho5 : H5 o = some (.lst (rowV r)) := e5 _ _ (s4 _ _ ((upd_ne (ne_of_none ho3 nt2)).trans ho3)) op
            refine ⟨_, rfl, _, rfl, o, _, _, 3, rfl, rfl, ho5, rfl, ?_⟩
            refine hZ _ _ ⟨{ r with back := threeO r j }, _, _, rfl, upd_same, ⟨ok.name, three_ok ok hj, ok.mirror, ok.takes, ok.makes, ok.some_, ok.yarn⟩, un_back (fun z => by rw [z] at kj; simp at kj), hp5.put op, But.set no e45⟩
        | 4, hi =>
          refine iteF ⟨_, rfl, rfl, _, rfl, iteF ⟨_, rfl, rfl, _, rfl, iteF ?_⟩⟩
          refine ⟨_, rfl, _, rfl, l, _, 0, _, rfl, rfl, SqL.of hl3, rfl, (by show 3 ≤ sizeLine; decide), fun t2 nt2 => ⟨t2, rfl, ⟨_, SqL.of upd_same⟩, fun D nD => lc_filt (walk_list (K := K) (a := t2) (xs := [.non, .str "q", .str r.name])) (fun j => ov (threeO r j)) (fun j => !decide (ov (threeO r j) = ov r.mirror)) nD (by show 3 < 1000000; decide) (fun H' s' => SqL.of (s' _ _ upd_same)) (fun j x Ha Hb hj s1 y R S hR hS => ?_) (fun H4 s4 hD => ?_)⟩⟩
          · obtain ⟨rfl, hx⟩ := y
            obtain rfl := three_at hj hx
            refine ⟨rfl, _, rfl, _, rfl, _, rfl, l, _, 4, _, rfl, rfl, SqL.of (s1 _ _ ((upd_ne (ne_of_none hl3 nt2)).trans hl3)), rfl, ov_scal _ _, _, rfl, ?_⟩
            refine ite2 (fun c => ⟨_, rfl, hR c _ (Same.refl _)⟩) (fun c => hS (by simpa using c) _ (Same.refl _))
          · have hpt := hp3.new (o := .lst [.non, .str "q", .str r.name]) nt2
            have dp : D ≠ p := hpt.ne nD
            have ne : ((List.range 3).filter fun j : Nat => !decide (ov (threeO r j) = ov r.mirror)).map (fun j : Nat => ov (threeO r j)) ≠ [] := by
              cases z : r.mirror with
              | none => exact filt_ne (j := 1) (by decide) (by simp [threeO, ov])
              | some x => exact filt_ne (j := 0) (by decide) (by simp [threeO, ov])
            refine ⟨p, D, _, rfl, hpt.same s4, SqL.of hD, dp, ne, filt_len (by first | decide | (show 3 ≤ 100; decide)), fun v H5 hv hp5 e5 => ?_⟩
            obtain ⟨j, hj, kj, rfl⟩ := filt_mem hv
            have e45 : But p H1 H5 := ((e13.trans (But.new nt2)).trans (But.of s4)).trans e5
            have ho5 : H5 o = some (.lst (rowV r)) := e5 _ _ (s4 _ _ ((upd_ne (ne_of_none ho3 nt2)).trans ho3)) op
            refine ⟨_, rfl, _, rfl, o, _, _, 4, rfl, rfl, ho5, rfl, ?_⟩
            refine hZ _ _ ⟨{ r with mirror := threeO r j }, _, _, rfl, upd_same, ⟨ok.name, ok.back, three_ok ok hj, ok.takes, ok.makes, ok.some_, ok.yarn⟩, un_mirror (fun z => by rw [z] at kj; simp at kj), hp5.put op, But.set no e45⟩
        | 5, hi =>
          refine iteF ⟨_, rfl, rfl, _, rfl, iteT ?_⟩
          refine ⟨_, rfl, (by show 4 ≤ sizeLine; decide), fun t2 nt2 => ⟨t2, rfl, ⟨_, SqL.of upd_same⟩, fun D nD => lc_filt (walk_list (K := K) (a := t2) (xs := [.int 0, .int 1, .int 2, .int 999])) (fun j => .int (fourI j)) (fun j => !decide (V.int (fourI j) = .int r.yarn)) nD (by decide) (fun H' s' => SqL.of (s' _ _ upd_same)) (fun j x Ha Hb hj s1 y R S hR hS => ?_) (fun H4 s4 hD => ?_)⟩⟩
          · obtain ⟨rfl, hx⟩ := y
            obtain rfl := four_at hj hx
            refine ⟨rfl, _, rfl, _, rfl, _, rfl, l, _, 5, _, rfl, rfl, SqL.of (s1 _ _ ((upd_ne (ne_of_none hl3 nt2)).trans hl3)), rfl, rfl, _, rfl, ?_⟩
            refine ite2 (fun c => ⟨_, rfl, hR c _ (Same.refl _)⟩) (fun c => hS (by simpa using c) _ (Same.refl _))
          · have hpt := hp3.new (o := .lst [.int 0, .int 1, .int 2, .int 999]) nt2
            have dp : D ≠ p := hpt.ne nD
            have ne : ((List.range 4).filter fun j : Nat => !decide (V.int (fourI j) = .int r.yarn)).map (fun j : Nat => V.int (fourI j)) ≠ [] := by
              by_cases z : r.yarn = 0
              · exact filt_ne (j := 1) (by decide) (by simp [z, fourI])
              · exact filt_ne (j := 0) (by decide) (by simp [fourI]; exact fun h => z h.symm)
            refine ⟨p, D, _, rfl, hpt.same s4, SqL.of hD, dp, ne, filt_len (by first | decide | (show 3 ≤ 100; decide)), fun v H5 hv hp5 e5 => ?_⟩
            obtain ⟨j, hj, kj, rfl⟩ := filt_mem hv
            have e45 : But p H1 H5 := ((e13.trans (But.new nt2)).trans (But.of s4)).trans e5
            have ho5 : H5 o = some (.lst (rowV r)) := e5 _ _ (s4 _ _ ((upd_ne (ne_of_none ho3 nt2)).trans ho3)) op
            refine ⟨_, rfl, _, rfl, o, _, _, 5, rfl, rfl, ho5, rfl, ?_⟩
            exact hZ _ _ ⟨{ r with yarn := fourI j }, _, _, rfl, upd_same, ⟨ok.name, ok.back, ok.mirror, ok.takes, ok.makes, ok.some_, four_ok j⟩, un_yarn (fun z => by rw [z] at kj; simp at kj), hp5.put op, But.set no e45⟩
        | n + 6, hi => exact absurd hi (by omega)
      · rintro _ H3 ⟨u, v5', v6', rfl, ho, oku, hu, hp3, e3⟩
        have hq3 := e3 _ _ hq qp
        have l6 : i < 6 := hi
        refine ⟨_, rfl, .inl ⟨rfl, _, SqL.of hq3⟩, _, rfl, q, _, _, rfl, rfl, hq3, by rw [List.length_map, hps]; exact Nat.lt_of_lt_of_le l6 (by decide), ?_⟩
        -- the rows so far stand
        have pre : ∀ a u', H1 a = some (.lst (rowV u')) → a ≠ p ∧ a ≠ q := fun a u' ha => by
          refine ⟨fun z => ?_, fun z => ?_⟩
          · obtain ⟨x, y, ep, _⟩ := hp1
            rw [z, ep] at ha
            cases ha
          · rw [z, hq] at ha
            have z2 : ps.map V.ref = rowV u' := by injection (Option.some.inj ha)
            cases ps with
            | nil => cases z2
            | cons x y => injection z2 with z3; cases z3
        refine ⟨ps ++ [o], us ++ [u], _, _, _, _, rfl, by rw [upd_same, List.map_append]; rfl, by rw [List.length_append, hps]; rfl, paired_snoc ⟨(upd_ne oq).trans ho, oku, hu⟩ (paired_imp (fun a u' h => ?_) hpair), hp3.put qp, But.set nq (e1.trans e3)⟩
        obtain ⟨h1, h2⟩ := pre a u' h.1
        exact ⟨(upd_ne h2).trans (e3 _ _ h.1 h1), h.2⟩
    · obtain ⟨ps, us, v3, v4, v5, v6, rfl, hq, hps, hpair, hp1, e1⟩ := h
      exact ⟨_, rfl, k q ps us H1 nq hq hpair hp1 e1⟩
end
end N

set_option maxHeartbeats 4000000
namespace L2
open PySem PySem.Spec PyProof.Rows
/-- a def whose code object is known: its lambdas are written into that one's table -/
structure FunAtC (K : PySem.W.Frag) (mg : Str → Option Value) (x qual : Str) (st : Stmt) (c : Addr) : Prop where
  ex : ∃ (f : Addr) (oc : Value) (od : Option Addr) (kV doc pm : Value) (an : Option Addr) (ct : Value) (osl : Array (Option Value)), mg x = some (.ref f) ∧
    K.lookup f = some ⟨oc, od, .func (PySem.W.fnOf x qual (defArgs st) (defBody st) (defScope st) .none kV doc pm an (.ref c) ct), osl⟩ ∧ PySem.W.codeIn K (.ref c) qual = true ∧ PySem.W.keepIn K (.ref f) = true
section
variable {P : Program} {w : World} {K : PySem.W.Frag} {mg : Str → Option Value} {base : Heap}
theorem hasGC_of {x qual : Str} {st : Stmt} {c : Addr} {N ps : List Str} {k : Nat} {sp : Sp} (F : FunAtC K mg x qual st c) (S : FnScope N ps (defScope st))
    (hb : ∀ (kV doc pm : Value) (an : Option Addr) (cdv ct : Value) (us : List Value), us.length = ps.length → bindArgs (PySem.W.fnOf x qual (defArgs st) (defBody st) (defScope st) .none kV doc pm an cdv ct) ⟨us, []⟩ = pure (ps.zip us))
    (len : ∀ vs H Q E, sp vs H Q E → vs.length = ps.length)
    (body : ∀ (f : Addr) (A : Around) (outer : List Env) (s : Shared) (H : Hp) (vs : List V) (Q : VK) (E : XK),
      Calm (A.deeper (envOfC qual (defScope st) s.heap.objs.size f (.ref c))) → Room k (A.deeper (envOfC qual (defScope st) s.heap.objs.size f (.ref c))) → sp vs H Q E →
      ∃ t, PSs (cxOf CX0 P w K mg base N qual (defScope st) f (.ref c) A outer s H E).nox (defBody st) t ∧ t { nx := fun _ H' => Q .non H', rt := Q } (start N vs) H) :
    HasG P w K mg base x (k + 1) ps sp := by
  obtain ⟨f, oc, od, kV, doc, pm, an, ct, osl, hm, lk, hcd, hk⟩ := F.ex
  refine ⟨f, _, hm, hk, .all (hb kV doc pm an (.ref c) ct), len, fun A outer s H args us vs Q E hr hG e0 hbd r hsp => ?_⟩
  have KX : K.In s.heap := e0.mod.kin.keeps fun b o e => (e0.bs b o e).1
  have nl : s.heap.NoLimit := e0.mod.nolimit.keeps fun b o e => (e0.bs b o e).1
  have kinds : ∀ y ∈ ps.zip us, (defScope st).names.lookup y.1 = some .local ∨ ((defScope st).names.lookup y.1 = some .cell ∧ ((cellsFrom (s.heap.objs.size + 1) (defScope st).names []).lookup y.1).isSome = true) := by
    rintro ⟨n, v⟩ hy
    exact (S.par n (List.of_mem_zip hy).1).imp id fun q => ⟨q, PySem.W.cellsFrom_some _ _ _ (.inl q)⟩
  refine codeAny_call_function hr.depth (KX _ _ lk) rfl S.co S.gen rfl (PySem.W.codeRec_of KX hcd) (hbd _ _ _ _ (wpAny_newFunctionEnv_cells S.kind kinds fun env he s1 x => ?_))
  cases he
  obtain ⟨t, ht, hq⟩ := body f A outer s H vs Q E hG (hr.deeper _) hsp
  have I := inv_start (CX := CX0) (P := P) (w := w) (K := K) (mg := mg) (base := base) (qual := qual) (cd := .ref c) (E := E) S hr.hd e0 (len _ _ _ _ hsp) r x
  refine ⟨nl.keeps x.toInCall.keep, codeAny_func (wpAny_mono (ht.nox.run [] s1 (start N vs) H _ I hq) (fun fl s' hs => ?_) fun _ _ z => z)⟩
  have fin : ∀ {σ' : St} {H' : Hp} {v : V} {u : Value}, Inv (cxOf CX0 P w K mg base N qual (defScope st) f (.ref c) A outer s H E) [] σ' H' s' → RelV v u → Q v H' → CE outer P w H s Q u s' :=
    fun J rv q => ⟨_, _, J.os, J.bare, J.base, J.hok, rv, q⟩
  match fl, hs with
  | .ret u, ⟨v, σ', H', J, rv, q⟩ => exact fin J rv q
  | .next, ⟨σ', H', J, q⟩ => exact fin (v := V.non) (u := Value.none) J rfl q
  | .brk, ⟨_, _, _, q⟩ => exact q.elim
  | .cont, ⟨_, _, _, q⟩ => exact q.elim
end
end L2
namespace N
open PySem L2
/-! ### what a call tells, or refuses -/
abbrev s__law_heard : Stmt := top 24
theorem sc__law_heard : FnScope ["_law_call", "e"] ["_law_call"] (defScope s__law_heard) := ⟨rfl, rfl, rfl, by decide +kernel, rfl, by decide +kernel, by decide +kernel⟩
def tagOf : Nat → Str
  | 0 => "name"
  | 1 => "number"
  | _ => "kind"
/-- what _law_heard makes of the lambda's reading -/
def THeard (Cs : Nat → Addr) : (XK → Hp → VK → Prop) → Hp → VK → Prop := fun tl H Q =>
  tl (fun cls d H' => ∃ (i : Nat) (dd : Addr) (v : V), i < 3 ∧ cls = .ref (Cs i) ∧ d = some dd ∧ H' dd = some (.xd [("value", v)]) ∧ ∀ t, H' t = none → Q (.ref t) (upd H' t (.tup [.str (tagOf i), v]))) H
    (fun v H1 => rReprF [v] H1 fun y H2 => 2 ≤ sizeLine ∧ ∀ t, H2 t = none → Q (.ref t) (upd H2 t (.tup [.str "told", y])))
section
variable {C : Addr} {Cs : Nat → Addr}
theorem heard_gives {X : Cx} {g : Addr} {cdg : Value} {q : Str} (B : Blts X.mg) (T : KindT X.K X.mg C Cs) (hx : ∀ i j, i < 3 → j < 3 → PySem.W.exmOne X.K (.ref (Cs i)) (.ref (Cs j)) = some (decide (i = j))) :
    LamX.GivesTo X ["_law_call", "e"] "_law_heard" (defScope s__law_heard) g cdg (defBody s__law_heard) "_law_call" q (THeard Cs) := by
  intro f c' s H Q tl act hc h
  refine ⟨_, pss_one (ps_try_ases (X := (cxOf C8.CX0 X.prog X.w X.K X.mg X.base ["_law_call", "e"] "_law_heard" (defScope s__law_heard) g cdg X.A X.stack s H C8.E0).nox) (n := "e") (i := 1)
      (l := [(.ref (Cs 0), _), (.ref (Cs 1), _), (.ref (Cs 2), _)])
      (tb := fun W D σ H => ∃ Ech : XK, (∀ cls d σ' H', σ'.length = 2 → Ech cls d H' → W cls d σ' H') ∧ σ[0]? = some (some (.ref f)) ∧ H c' = some (LamX.CodeO c' q) ∧ tl Ech H (fun v H1 => rReprF [v] H1 fun y H2 => 2 ≤ sizeLine ∧ ∀ t, H2 t = none → D.rt (.ref t) (upd H2 t (.tup [.str "told", y]))))
      rfl rfl sc__law_heard.nd rfl rfl takes0 (fun W pn xe tk _ => ?_)
      (.cons ⟨rfl, by decide, .inl T.e0.g⟩ (fun a o k d pn hz hf => pss_one (ps_ret (pe_tup (pa_cons pe_str (pa_cons (pe_xf T.e0.r T.e0.no hz hf (pv 1)) pa_nil)))))
        (.cons ⟨rfl, by decide, .inl T.e1.g⟩ (fun a o k d pn hz hf => pss_one (ps_ret (pe_tup (pa_cons pe_str (pa_cons (pe_xf T.e1.r T.e1.no hz hf (pv 1)) pa_nil)))))
          (.cons ⟨rfl, by decide, .inl T.e2.g⟩ (fun a o k d pn hz hf => pss_one (ps_ret (pe_tup (pa_cons pe_str (pa_cons (pe_xf T.e2.r T.e2.no hz hf (pv 1)) pa_nil))))) .nil)))), ?_⟩
  · refine ⟨fun pins s' σ H' D I h' => ?_⟩
    obtain ⟨Ech, hW, h1, h2, h3⟩ := h'
    have tk2 : Takes ((cxOf C8.CX0 X.prog X.w X.K X.mg X.base ["_law_call", "e"] "_law_heard" (defScope s__law_heard) g cdg X.A X.stack s H C8.E0).tr pn xe) (fun cls d σ H => σ.length = 2 → W cls d σ H) := fun u s' z => by
      obtain ⟨a, BB, sI, pins, σ, H, cls, d, e, I, nb, up, sky, na, os, ag, w⟩ := z
      exact tk u s' ⟨a, BB, sI, pins, σ, H, cls, d, e, I, nb, up, sky, na, os, ag, w I.len⟩
    exact (pss_one (X := ((cxOf C8.CX0 X.prog X.w X.K X.mg X.base ["_law_call", "e"] "_law_heard" (defScope s__law_heard) g cdg X.A X.stack s H C8.E0).tr pn xe)) (ps_ret (pe_tup (pa_cons pe_str (pa_cons (pe_callB call_reprF (by rfl) B.n_repr (by decide +kernel) (pa_cons (act (fun cls d σ H => σ.length = 2 → W cls d σ H) pn xe Ech _ _ tk2 (fun cls d σ' H' z l => hW cls d σ' H' l z)) pa_nil)) pa_nil))))).run pins s' σ H' D I ⟨h1, h2, h3⟩
  · refine ⟨fun cls d H' => ∃ (i : Nat) (dd : Addr) (v : V), i < 3 ∧ cls = .ref (Cs i) ∧ d = some dd ∧ H' dd = some (.xd [("value", v)]) ∧ ∀ t, H' t = none → Q (.ref t) (upd H' t (.tup [.str (tagOf i), v])), fun cls d σ' H' l2 z => ?_, rfl, hc, h⟩
    obtain ⟨i, dd, v, hi, rfl, rfl, hd, q⟩ := z
    obtain ⟨x0, x1, rfl⟩ : ∃ x0 x1, σ' = [x0, x1] := by
      match σ', l2 with
      | [x0, x1], _ => exact ⟨x0, x1, rfl⟩
    have told : ∀ a : Addr, H' a = none → ∀ i', i = i' → (∀ t, H' t = none → Q (.ref t) (upd H' t (.tup [.str (tagOf i'), v]))) := fun a na i' e => e ▸ q
    refine ⟨_, hx i 0 hi (by decide), fun b a na => ?_, fun b => ⟨_, hx i 1 hi (by decide), fun b a na => ?_, fun b => ⟨_, hx i 2 hi (by decide), fun b a na => ?_, fun b => ?_⟩⟩⟩
    · have e : i = 0 := of_decide_eq_true b
      subst e
      exact ⟨_, rfl, rfl, rfl, dd, _, v, rfl, hd, rfl, (by show 2 ≤ sizeLine; decide), q⟩
    · have e : i = 1 := of_decide_eq_true b
      subst e
      exact ⟨_, rfl, rfl, rfl, dd, _, v, rfl, hd, rfl, (by show 2 ≤ sizeLine; decide), q⟩
    · have e : i = 2 := of_decide_eq_true b
      subst e
      exact ⟨_, rfl, rfl, rfl, dd, _, v, rfl, hd, rfl, (by show 2 ≤ sizeLine; decide), q⟩
    · rename_i b0 b1
      have := of_decide_eq_false b0
      have := of_decide_eq_false b1
      have := of_decide_eq_false b
      omega
end
end N

set_option maxHeartbeats 4000000
namespace N
open PySem L2
/-! ### wrong rows are refused -/
def Six.at_ (z : Six) : Nat → V
  | 0 => z.n
  | 1 => z.t
  | 2 => z.m
  | 3 => z.b
  | 4 => z.i
  | _ => z.y
def Six.put (z : Six) (k : Nat) (v : V) : Six :=
  match k with
  | 0 => { z with n := v }
  | 1 => { z with t := v }
  | 2 => { z with m := v }
  | 3 => { z with b := v }
  | 4 => { z with i := v }
  | _ => { z with y := v }
theorem Six.vs_put (z : Six) {k : Nat} (v : V) (h : k ≤ 5) : (z.put k v).vs = z.vs.set k v := by
  match k, h with
  | 0, _ => rfl
  | 1, _ => rfl
  | 2, _ => rfl
  | 3, _ => rfl
  | 4, _ => rfl
  | 5, _ => rfl
theorem Six.vs_at (z : Six) {k : Nat} (h : k ≤ 5) : z.vs[k]? = some (z.at_ k) := by
  match k, h with
  | 0, _ => rfl
  | 1, _ => rfl
  | 2, _ => rfl
  | 3, _ => rfl
  | 4, _ => rfl
  | 5, _ => rfl
theorem Six.at_put (z : Six) {k j : Nat} (v : V) (h : k ≤ 5) (hj : j ≤ 5) : (z.put k v).at_ j = if j = k then v else z.at_ j := by
  match k, h, j, hj with
  | 0, _, 0, _ => rfl
  | 0, _, 1, _ => rfl
  | 0, _, 2, _ => rfl
  | 0, _, 3, _ => rfl
  | 0, _, 4, _ => rfl
  | 0, _, 5, _ => rfl
  | 1, _, 0, _ => rfl
  | 1, _, 1, _ => rfl
  | 1, _, 2, _ => rfl
  | 1, _, 3, _ => rfl
  | 1, _, 4, _ => rfl
  | 1, _, 5, _ => rfl
  | 2, _, 0, _ => rfl
  | 2, _, 1, _ => rfl
  | 2, _, 2, _ => rfl
  | 2, _, 3, _ => rfl
  | 2, _, 4, _ => rfl
  | 2, _, 5, _ => rfl
  | 3, _, 0, _ => rfl
  | 3, _, 1, _ => rfl
  | 3, _, 2, _ => rfl
  | 3, _, 3, _ => rfl
  | 3, _, 4, _ => rfl
  | 3, _, 5, _ => rfl
  | 4, _, 0, _ => rfl
  | 4, _, 1, _ => rfl
  | 4, _, 2, _ => rfl
  | 4, _, 3, _ => rfl
  | 4, _, 4, _ => rfl
  | 4, _, 5, _ => rfl
  | 5, _, 0, _ => rfl
  | 5, _, 1, _ => rfl
  | 5, _, 2, _ => rfl
  | 5, _, 3, _ => rfl
  | 5, _, 4, _ => rfl
  | 5, _, 5, _ => rfl
theorem odd_put {H : Hp} {z : Six} {k : Nat} {v : V} (h : ∀ x ∈ z.vs, Odd H x) (hk : k ≤ 5) (hv : Odd H v) : ∀ x ∈ (z.put k v).vs, Odd H x := by
  intro x hx
  rw [Six.vs_put z v hk] at hx
  rcases List.mem_or_eq_of_mem_set hx with hx | rfl
  · exact h x hx
  · exact hv
/-- the sequence of the places -/
def ord : Nat → Nat
  | 0 => 0
  | 1 => 3
  | 2 => 4
  | 3 => 1
  | 4 => 2
  | _ => 5
theorem ord_le (j : Nat) : ord j ≤ 5 := by
  match j with
  | 0 => decide
  | 1 => decide
  | 2 => decide
  | 3 => decide
  | 4 => decide
  | n + 5 => exact Nat.le_refl 5
theorem ord_inj (i j : Nat) (hi : i ≤ 5) (hj : j ≤ 5) (h : ord i = ord j) : i = j :=
  (by decide +kernel : ∀ i < 6, ∀ j < 6, ord i = ord j → i = j) i (by omega) j (by omega) h
def orders : List V := [.int 0, .int 3, .int 4, .int 1, .int 2, .int 5]
theorem orders_at {j : Nat} (h : j ≤ 5) : orders[j]? = some (.int (ord j)) := by
  match j, h with
  | 0, _ => rfl
  | 1, _ => rfl
  | 2, _ => rfl
  | 3, _ => rfl
  | 4, _ => rfl
  | 5, _ => rfl
/-- right up to a place, wrong there -/
structure WrongFrom (r : Row) (a : Nat) (z : Six) : Prop where
  pre : ∀ j, j < a → z.at_ (ord j) = r.six.at_ (ord j)
  bad : badAt (ord a) (z.at_ (ord a))
theorem WrongFrom.fault {r : Row} {a : Nat} {z : Six} (ok : KindOk r) (h : WrongFrom r a z) (ha : a ≤ 5) : z.fault = some (if a ≤ 2 then 0 else 1, z.at_ (ord a)) := by
  have g1 : goodN r.six.n = true := decide_eq_true ok.name
  have g2 : goodO r.six.b = true := good_ov ok.back
  have g3 : goodO r.six.i = true := good_ov ok.mirror
  have g4 : goodI 6 r.six.t = true := by show (decide _ && decide _) = true; rw [decide_eq_true ok.takes.1, decide_eq_true ok.takes.2]; rfl
  have g5 : goodI 6 r.six.m = true := by show (decide _ && decide _) = true; rw [decide_eq_true ok.makes.1, decide_eq_true ok.makes.2]; rfl
  obtain ⟨pre, bad⟩ := h
  match a, ha with
  | 0, _ =>
    have b : goodN z.n = false := bad
    simp [Six.fault, b, ord, Six.at_]
  | 1, _ =>
    have e0 : z.n = r.six.n := pre 0 (by decide)
    have b : goodO z.b = false := bad
    simp [Six.fault, e0, g1, b, ord, Six.at_]
  | 2, _ =>
    have e0 : z.n = r.six.n := pre 0 (by decide)
    have e1 : z.b = r.six.b := pre 1 (by decide)
    have b : goodO z.i = false := bad
    simp [Six.fault, e0, e1, g1, g2, b, ord, Six.at_]
  | 3, _ =>
    have e0 : z.n = r.six.n := pre 0 (by decide)
    have e1 : z.b = r.six.b := pre 1 (by decide)
    have e2 : z.i = r.six.i := pre 2 (by decide)
    have b : goodI 6 z.t = false := bad
    simp [Six.fault, e0, e1, e2, g1, g2, g3, b, ord, Six.at_]
  | 4, _ =>
    have e0 : z.n = r.six.n := pre 0 (by decide)
    have e1 : z.b = r.six.b := pre 1 (by decide)
    have e2 : z.i = r.six.i := pre 2 (by decide)
    have e3 : z.t = r.six.t := pre 3 (by decide)
    have b : goodI 6 z.m = false := bad
    simp [Six.fault, e0, e1, e2, e3, g1, g2, g3, g4, b, ord, Six.at_]
  | 5, _ =>
    have e0 : z.n = r.six.n := pre 0 (by decide)
    have e1 : z.b = r.six.b := pre 1 (by decide)
    have e2 : z.i = r.six.i := pre 2 (by decide)
    have e3 : z.t = r.six.t := pre 3 (by decide)
    have e4 : z.m = r.six.m := pre 4 (by decide)
    have b : goodI 999 z.y = false := bad
    simp [Six.fault, e0, e1, e2, e3, e4, g1, g2, g3, g4, g5, b, ord, Six.at_]
/-- a row of nothing -/
theorem empty_fault {r : Row} (ok : KindOk r) : ({ r.six with t := .int 0, m := .int 0 } : Six).fault = some (2, .str r.name) := by
  have g1 : goodN r.six.n = true := decide_eq_true ok.name
  have g2 : goodO r.six.b = true := good_ov ok.back
  have g3 : goodO r.six.i = true := good_ov ok.mirror
  have g6 : goodI 999 r.six.y = true := by show (decide _ && decide _) = true; rw [decide_eq_true ok.yarn.1, decide_eq_true ok.yarn.2]; rfl
  have z1 : goodI 6 (.int 0) = true := by decide
  have z2 : isZ (.int 0) = true := by decide
  simp [Six.fault, g1, g2, g3, g6, z1, z2]
  rfl
/-! the tables of lambdas -/
/-- all but p's object and the tables -/
def XB (p : Addr) (H H' : Hp) : Prop := ∀ b o, H b = some o → b ≠ p → (∀ ps, o ≠ .tbl ps) → H' b = some o
theorem XB.of {p : Addr} {H H' : Hp} (e : But p H H') : XB p H H' := fun b o h n _ => e b o h n
theorem XB.ext {p : Addr} {H H' : Hp} (e : LamX.ExtN H H') : XB p H H' := fun b o h _ n => e b o h n
theorem XB.trans {p : Addr} {H H1 H2 : Hp} (a : XB p H H1) (b : XB p H1 H2) : XB p H H2 := fun c o h n t => b c o (a c o h n t) n t
theorem XB.refl {p : Addr} {H : Hp} : XB p H H := fun _ _ h _ _ => h
theorem lst_tbl {xs : List V} (ps : Array Value) : HO.lst xs ≠ .tbl ps := fun z => by cases z
theorem tabs_but {T : List (Addr × Str)} {p : Addr} {H H' : Hp} (hp : Pot H p) (t : LamX.Tabs T H) (e : But p H H') : LamX.Tabs T H' := fun q hq => by
  obtain ⟨x, y, ep, _⟩ := hp
  obtain ⟨ps, h1, h2, h3⟩ := t q hq
  refine ⟨ps, e _ _ h1 (fun z => by rw [z, ep] at h1; cases h1), h2, fun pos cv hc => ?_⟩
  obtain ⟨c, e1, e2⟩ := h3 pos cv hc
  refine ⟨c, e1, e _ _ e2 fun z => ?_⟩
  rw [z, ep] at e2
  have z2 := Option.some.inj e2
  unfold LamX.CodeO at z2
  cases z2
theorem Pot.xb {p : Addr} {H H' : Hp} (hp : Pot H p) (e : LamX.ExtN H H') : Pot H' p := let ⟨a, b, q, r⟩ := hp; ⟨a, b, e _ _ q lst_tbl, r⟩
theorem Odd.ext {H H' : Hp} {v : V} (e : LamX.ExtN H H') (h : Odd H v) : Odd H' v := by
  cases h with
  | non => exact .non
  | bl b => exact .bl b
  | int i h => exact .int i h
  | str s h c => exact .str s h c
  | lst h => exact .lst (e _ _ h fun _ z => by cases z)
  | tupS s h l c => exact .tupS s (e _ _ h fun _ z => by cases z) l c
  | tupI i h l => exact .tupI i (e _ _ h fun _ z => by cases z) l
  | dic h => exact .dic (e _ _ h fun _ z => by cases z)
end N

set_option maxHeartbeats 4000000
namespace N
open PySem L2
abbrev s__law_refusals_right : Stmt := top 29
theorem sc__law_refusals_right : FnScope ["_law_pot_here", "_law_row", "_law_order", "_law_at", "_law_place", "_law_bad", "_law_later", "_law_due", "_law_empty"] ["_law_pot_here", "_law_row"] (defScope s__law_refusals_right) := ⟨rfl, rfl, rfl, by decide +kernel, rfl, by decide +kernel, by decide +kernel⟩
abbrev lamName : Str := "_law_refusals_right.<locals>.<lambda>"
def spRefusals (T : List (Addr × Str)) : Sp := fun vs H Q _ => ∃ (p l : Addr) (r : Row), vs = [.ref p, .ref l] ∧ Pot H p ∧ LamX.Tabs T H ∧ H l = some (.lst (rowV r)) ∧ l ≠ p ∧ KindOk r ∧ ∀ H', Pot H' p → XB p H H' → LamX.Tabs T H' → Q (.bl true) H'
theorem ixn {k : Nat} (h : k ≤ 5) : ixN 6 (k : Int) = some k := by
  match k, h with
  | 0, _ => rfl
  | 1, _ => rfl
  | 2, _ => rfl
  | 3, _ => rfl
  | 4, _ => rfl
  | 5, _ => rfl
theorem cut_at {i j : Nat} {x : V} (hi : i < 6) (h : (cutV orders (some ((i : Int) + 1)) none)[j]? = some x) : i + 1 + j ≤ 5 ∧ x = .int (ord (i + 1 + j)) := by
  have e : cutV orders (some ((i : Int) + 1)) none = orders.drop (i + 1) := by
    match i, hi with
    | 0, _ => rfl
    | 1, _ => rfl
    | 2, _ => rfl
    | 3, _ => rfl
    | 4, _ => rfl
    | 5, _ => rfl
  rw [e, List.getElem?_drop] at h
  have l : i + 1 + j < orders.length := by
    obtain ⟨l, _⟩ := List.getElem?_eq_some_iff.mp h
    exact l
  have l5 : i + 1 + j ≤ 5 := by
    have : orders.length = 6 := rfl
    omega
  rw [orders_at l5] at h
  exact ⟨l5, (Option.some.inj h).symm⟩
theorem Odd.set {H : Hp} {b : Addr} {xs : List V} {o : HO} {v : V} (hb : H b = some (.lst xs)) (ne : xs ≠ []) (h : Odd H v) : Odd (L2.upd H b o) v := by
  cases h with
  | non => exact .non
  | bl b => exact .bl b
  | int i h => exact .int i h
  | str s h c => exact .str s h c
  | lst h => exact .lst ((upd_ne (fun z => by rw [z, hb] at h; exact ne (by injection Option.some.inj h))).trans h)
  | tupS s h l c => exact .tupS s ((upd_ne (fun z => by rw [z, hb] at h; cases h)).trans h) l c
  | tupI i h l => exact .tupI i ((upd_ne (fun z => by rw [z, hb] at h; cases h)).trans h) l
  | dic h => exact .dic ((upd_ne (fun z => by rw [z, hb] at h; cases h)).trans h)
theorem Six.vs_ne (z : Six) : z.vs ≠ [] := fun h => by cases h
/-- all but p's and b's objects -/
def B2 (p b : Addr) (H H' : Hp) : Prop := ∀ c o, H c = some o → c ≠ p → c ≠ b → H' c = some o
theorem B2.but {p b : Addr} {H H1 H2 : Hp} (a : B2 p b H H1) (e : But p H1 H2) : B2 p b H H2 := fun c o h n1 n2 => e c o (a c o h n1 n2) n1
theorem B2.set {p b : Addr} {H H1 : Hp} {o : HO} (a : B2 p b H H1) : B2 p b H (L2.upd H1 b o) := fun c u h n1 n2 => by rw [upd_ne n2]; exact a c u h n1 n2
section
variable {P : Program} {w : World} {K : PySem.W.Frag} {mg : Str → Option Value} {base : Heap} {C : Addr} {Cs : Nat → Addr}
theorem h_law_refusals (B : Blts mg) (T : KindT K mg C Cs) {c Pt : Addr} (F : FunAtC K mg "_law_refusals_right" "_law_refusals_right" s__law_refusals_right c) (FH : FunAt K mg "_law_heard" "_law_heard" s__law_heard) (TB : LamX.TabB base mg c Pt)
    (hx : ∀ i j, i < 3 → j < 3 → PySem.W.exmOne K (.ref (Cs i)) (.ref (Cs j)) = some (decide (i = j)))
    (h_law_draw : Has P w K mg base "_law_draw" 1 ["_law_pot_here", "_law_many"] spDraw) (h_law_wrong : Has P w K mg base "_law_wrong" 3 ["_law_pot_here", "_law_place"] spWrong) (h_law_kind : HasX P w K mg base "_law_kind" 6 ["_law_row"] (spLawKind K C Cs)) :
    HasG P w K mg base "_law_refusals_right" 9 ["_law_pot_here", "_law_row"] (spRefusals [(Pt, lamName)]) := by
  obtain ⟨g, fdg, hmg, Fg⟩ := FH.ex
  have hkg := Fg.kp
  have hbg := Fg.binds (ps := ["_law_call"]) (fun _ _ _ _ _ _ us hl => match us, hl with | [_], _ => rfl)
  obtain ⟨ocg, odg, kVg, docg, pmg, ang, cdvg, ctg, oslg, rfl, lkg, hcg⟩ := Fg.ex
  refine hasGC_of F sc__law_refusals_right (fun _ _ _ _ _ _ us hl => match us, hl with | [_, _], _ => rfl) (fun vs H Q E h => ?_) (fun f A outer s H vs Q E hG hr h => ?_)
  · obtain ⟨p, l, r, rfl, _⟩ := h
    rfl
  · obtain ⟨p, l, r, rfl, hp, ht, hl, hlp, ok, k⟩ := h
    refine ⟨_, (pss_cons (ps_set (i := 2) sc__law_refusals_right.nd rfl (Or.inl rfl) (pe_lst (pa_cons pe_int (pa_cons pe_int (pa_cons pe_int (pa_cons pe_int (pa_cons pe_int (pa_cons pe_int pa_nil))))))))
      (pss_cons (ps_for PassesOwn.never rfl (pi_enum (by rfl) B.n_enumerate (pa_cons (pv 2) pa_nil)) (pg_tup rfl (pgs_cons (pg_name (i := 3) sc__law_refusals_right.nd rfl (Or.inl rfl)) (pgs_cons (pg_name (i := 4) sc__law_refusals_right.nd rfl (Or.inl rfl)) pgs_nil)))
        (pss_cons (ps_set (i := 5) sc__law_refusals_right.nd rfl (Or.inr rfl) (pe_callTy call_list_of (by rfl) B.n_list (by decide +kernel) (pa_cons (pv 1) pa_nil)))
        (pss_cons (ps_asg (pe_has h_law_wrong (hr.mono (by decide)) (pa_cons (pv 0) (pa_cons (pv 4) pa_nil))) (pg_sub (pv 5) (pv 4) set_list))
        (pss_cons (ps_for PassesOwn.never rfl (pi_list (pe_slice sl_list (pv 2) (po_some (pe_op op_add (pv 3) pe_int)) po_none)) (pg_name (i := 6) sc__law_refusals_right.nd rfl (Or.inl rfl))
          (pss_one (ps_if (pt_cmpR op_eq (pe_has h_law_draw (hr.mono (by decide)) (pa_cons (pv 0) (pa_cons pe_int pa_nil))) pe_int (by first | exact nomark _ | rfl)) (pss_one (ps_asg (pe_has h_law_wrong (hr.mono (by decide)) (pa_cons (pv 0) (pa_cons (pv 6) pa_nil))) (pg_sub (pv 5) (pv 6) set_list)))
            pss_nil)))
        (pss_cons (ps_set (i := 7) sc__law_refusals_right.nd rfl (Or.inl rfl) (pe_tup (pa_cons (pe_ifExp (pt_cmpR op_in_seq (pv 4) (pe_lst (pa_cons pe_int (pa_cons pe_int (pa_cons pe_int pa_nil)))) (by first | exact nomark _ | rfl)) pe_str pe_str) (pa_cons (pe_ix ix_list (pv 5) (pv 4) (fun _ _ => rfl)) pa_nil))))
        (pss_one (ps_if (pt_cmpR op_ne (pe_callB (call_reprP (B := 8) hG (Nat.lt_of_le_of_lt (Nat.add_le_add_left (by decide) _) hr.units)) (by rfl) B.n_repr (by decide +kernel) (pa_cons (LamX.pe_lamcall (T := [(Pt, lamName)]) (TT := THeard Cs) rfl hmg hkg lkg hcg hbg sc__law_heard rfl (Or.inl rfl) (heard_gives B T hx) TB rfl (List.mem_singleton.mpr (congrArg (Prod.mk Pt) (by rfl))) (fun q hq _ => by rw [List.mem_singleton.mp hq]; rfl) (hr.mono (by decide)) (LamX.lamS_by (by show LamX.lamSB (defScope s__law_refusals_right) _ = true; decide +kernel)) rfl (fun _ _ _ _ _ => rfl) (fun A outer s H E f c' hr2 => pe_hasX h_law_kind hr2 (passes_call (takes_of rfl rfl rfl rfl) (fun _ _ _ _ h => h)) (pa_cons (pv 5) pa_nil))) pa_nil)) (pe_callB (call_reprP (B := 8) hG (Nat.lt_of_le_of_lt (Nat.add_le_add_left (by decide) _) hr.units)) (by rfl) B.n_repr (by decide +kernel) (pa_cons (pv 7) pa_nil)) (by first | exact nomark _ | rfl)) (pss_one (ps_ret pe_bl))
          pss_nil)))))))
      (pss_cons (ps_set (i := 8) sc__law_refusals_right.nd rfl (Or.inr rfl) (pe_callTy call_list_of (by rfl) B.n_list (by decide +kernel) (pa_cons (pv 1) pa_nil)))
      (pss_cons (ps_asg (pe_tup (pa_cons pe_int (pa_cons pe_int pa_nil))) (pg_tup rfl (pgs_cons (pg_sub (pv 8) pe_int set_list) (pgs_cons (pg_sub (pv 8) pe_int set_list) pgs_nil))))
      (pss_one (ps_ret (pe_cmpR op_eq (pe_callB (call_reprP (B := 8) hG (Nat.lt_of_le_of_lt (Nat.add_le_add_left (by decide) _) hr.units)) (by rfl) B.n_repr (by decide +kernel) (pa_cons (LamX.pe_lamcall (T := [(Pt, lamName)]) (TT := THeard Cs) rfl hmg hkg lkg hcg hbg sc__law_heard rfl (Or.inl rfl) (heard_gives B T hx) TB rfl (List.mem_singleton.mpr (congrArg (Prod.mk Pt) (by rfl))) (fun q hq _ => by rw [List.mem_singleton.mp hq]; rfl) (hr.mono (by decide)) (LamX.lamS_by (by show LamX.lamSB (defScope s__law_refusals_right) _ = true; decide +kernel)) rfl (fun _ _ _ _ _ => rfl) (fun A outer s H E f c' hr2 => pe_hasX h_law_kind hr2 (passes_call (takes_of rfl rfl rfl rfl) (fun _ _ _ _ h => h)) (pa_cons (pv 8) pa_nil))) pa_nil)) (pe_callB (call_reprP (B := 8) hG (Nat.lt_of_le_of_lt (Nat.add_le_add_left (by decide) _) hr.units)) (by rfl) B.n_repr (by decide +kernel) (pa_cons (pe_tup (pa_cons pe_str (pa_cons (pe_ix ix_list (pv 1) pe_int (fun _ _ => rfl)) pa_nil))) pa_nil)) (by first | exact nomark _ | rfl)))))))), ?_⟩
    refine ⟨(by show 6 ≤ sizeLine; decide), fun qo nqo => ?_⟩
    have qop : qo ≠ p := hp.ne nqo
    let H0 : Hp := upd H qo (.lst orders)
    have hp0 : Pot H0 p := hp.new nqo
    have e0 : But p H H0 := But.new nqo
    have ht0 : LamX.Tabs [(Pt, lamName)] H0 := tabs_but hp ht e0
    refine next_of ?_
    dsimp only
    refine ⟨_, rfl, qo, orders, rfl, SqL.of upd_same, for_it (walk_enum (K := K) (a := qo) (xs := orders)) (fun i σ H' => ∃ v3 v4 v5 v6 v7 v8 : Option V, σ = [some (.ref p), some (.ref l), some (.ref qo), v3, v4, v5, v6, v7, v8] ∧ Pot H' p ∧ XB p H0 H' ∧ LamX.Tabs [(Pt, lamName)] H')
      ⟨none, none, none, none, none, none, rfl, hp0, XB.refl, ht0⟩ (fun i σ H' _ h => ?_) (fun i x σ Ha Hb hi h y => ?_) (fun σ H' h => ?_)⟩
    · obtain ⟨_, _, _, _, _, _, _, _, e, _⟩ := h
      exact SqL.of (e _ _ upd_same qop lst_tbl)
    · obtain ⟨v3, v4, v5, v6, v7, v8, rfl, hpa, ea, hta⟩ := h
      obtain ⟨t, x1, x2, rfl, nt, rfl, f1, f2⟩ := y
      have i5 : i ≤ 5 := Nat.le_of_lt_succ hi
      cases (Option.some.inj f1 : V.int (i : Nat) = x1)
      have f3 : orders[i]? = some x2 := f2
      rw [orders_at i5] at f3
      cases (Option.some.inj f3 : V.int (ord i) = x2)
      have ol := ord_le i
      have hl' : Ha l = some (.lst (rowV r)) := ea _ _ (e0 _ _ hl hlp) hlp lst_tbl
      have ho' : Ha qo = some (.lst orders) := ea _ _ upd_same qop lst_tbl
      have hp1 : Pot (upd Ha t (.tup [.int (i : Nat), .int (ord i)])) p := hpa.new nt
      have e1 : But p Ha (upd Ha t (.tup [.int (i : Nat), .int (ord i)])) := But.new nt
      refine ⟨t, _, rfl, SqT.of upd_same, rfl, _, _, rfl, _, _, rfl, rfl, ?_⟩
      refine ⟨_, rfl, _, _, rfl, .inl (SqL.of (e1 _ _ hl' hlp)), fun b nb => ?_⟩
      have bp : b ≠ p := hp1.ne nb
      have nba : Ha b = none := e1.free bp nb
      have hp2 := hp1.new (o := .lst r.six.vs) nb
      have e2 : But p Ha _ := e1.trans (But.new (o := .lst r.six.vs) nb)
      refine next_of ?_
      dsimp only
      -- the first wrong value
      refine ⟨_, rfl, _, rfl, p, ord i, rfl, ol, hp2, fun v H3 ov1 bad1 hp3 e3 => ?_⟩
      have hb3 : H3 b = some (.lst r.six.vs) := e3 _ _ upd_same bp
      refine ⟨_, rfl, _, rfl, b, _, _, ord i, rfl, rfl, hb3, ixn ol, ?_⟩
      let z0 : Six := r.six.put (ord i) v
      have hz0 : (upd H3 b (.lst (r.six.vs.set (ord i) v))) b = some (.lst z0.vs) := by rw [upd_same, Six.vs_put _ _ ol]
      have wf0 : WrongFrom r i z0 := by
        refine ⟨fun j hj => ?_, ?_⟩
        · rw [Six.at_put _ _ ol (ord_le j), if_neg (fun z => by have := ord_inj j i (by omega) i5 z; omega)]
        · rw [Six.at_put _ _ ol ol, if_pos rfl]
          exact bad1
      have hp4 := hp3.put (o := .lst (r.six.vs.set (ord i) v)) bp
      have e4 := But.set (o := .lst (r.six.vs.set (ord i) v)) nba (e2.trans e3)
      have odd0 : ∀ x ∈ z0.vs, Odd (upd H3 b (.lst (r.six.vs.set (ord i) v))) x := odd_put (Row.odd ok _) ol (Odd.set hb3 r.six.vs_ne ov1)
      let H4 : Hp := upd H3 b (.lst (r.six.vs.set (ord i) v))
      have ho4 : H4 qo = some (.lst orders) := e4 _ _ ho' qop
      -- later places
      refine next_of ?_
      dsimp only
      refine seq_cut (fun σ' H' => ∃ (z : Six) (v6 : Option V), σ' = [some (.ref p), some (.ref l), some (.ref qo), some (.int (i : Nat)), some (.int (ord i)), some (.ref b), v6, v7, v8] ∧ H' b = some (.lst z.vs) ∧ WrongFrom r i z ∧ (∀ x ∈ z.vs, Odd H' x) ∧ Pot H' p ∧ But p Ha H') (fun Z hZ => ?_) ?_
      · refine ⟨_, rfl, ⟨_, rfl, _, _, rfl, rfl, _, rfl, qo, orders, rfl, SqL.of ho4, fun s ns => ?_⟩⟩
        have hp5 := hp4.new (o := .lst (cutV orders (some ((i : Int) + 1)) none)) ns
        have sb : b ≠ s := ne_of_none hz0 ns
        have sp : s ≠ p := hp4.ne ns
        let H5 : Hp := upd H4 s (.lst (cutV orders (some ((i : Int) + 1)) none))
        have hz5 : H5 b = some (.lst z0.vs) := (upd_ne sb).trans hz0
        have s45 : Same H4 H5 := Same.new ns
        have e5 : But p Ha H5 := e4.trans (But.new ns)
        refine ⟨s, rfl, ⟨_, SqL.of upd_same⟩, for_list (K := K) (a := s) (xs := cutV orders (some ((i : Int) + 1)) none) (fun j σ H' => ∃ (z : Six) (v6 : Option V), σ = [some (.ref p), some (.ref l), some (.ref qo), some (.int (i : Nat)), some (.int (ord i)), some (.ref b), v6, v7, v8] ∧ H' b = some (.lst z.vs) ∧ WrongFrom r i z ∧ (∀ x ∈ z.vs, Odd H' x) ∧ Pot H' p ∧ But p Ha H' ∧ B2 p b H5 H')
          ⟨z0, _, rfl, hz5, wf0, fun x hx => (odd0 x hx).same s45, hp5, e5, fun _ _ h _ _ => h⟩ (fun j σ H' _ h => ?_) (fun j x σ H' hx h => ?_) (fun σ H' h => ?_)⟩
        · obtain ⟨_, _, _, _, _, _, _, _, e⟩ := h
          exact SqL.of (e _ _ upd_same sp sb.symm)
        · obtain ⟨z, v6', rfl, hz, wf, od, hpz, ez, e2z⟩ := h
          obtain ⟨j5, rfl⟩ := cut_at hi hx
          have jl := ord_le (i + 1 + j)
          refine ⟨_, rfl, p, 3, rfl, hpz, by decide, by decide, fun d H6 d0 d1 hp6 e6 => ⟨rfl, _, rfl, ite2 (fun c => ?_) (fun c => ?_)⟩⟩
          · refine ⟨_, rfl, _, rfl, p, ord (i + 1 + j), rfl, jl, hp6, fun w H7 ow bw hp7 e7 => ?_⟩
            have hb7 : H7 b = some (.lst z.vs) := e7 _ _ (e6 _ _ hz bp) bp
            refine ⟨_, rfl, _, rfl, b, _, _, ord (i + 1 + j), rfl, rfl, hb7, ixn jl, z.put (ord (i + 1 + j)) w, _, rfl, by rw [upd_same, Six.vs_put _ _ jl], ?_, ?_, hp7.put bp, But.set nba ((ez.trans e6).trans e7), ((e2z.but e6).but e7).set⟩
            · refine ⟨fun k hk => ?_, ?_⟩
              · rw [Six.at_put _ _ jl (ord_le k), if_neg (fun q => by have := ord_inj k (i + 1 + j) (by omega) j5 q; omega)]
                exact wf.pre k hk
              · rw [Six.at_put _ _ jl ol, if_neg (fun q => by have := ord_inj i (i + 1 + j) i5 j5 q; omega)]
                exact wf.bad
            · exact odd_put (fun x hx => Odd.set hb7 z.vs_ne (((od x hx).but hpz e6).but hp6 e7)) jl (Odd.set hb7 z.vs_ne ow)
          · exact ⟨z, _, rfl, e6 _ _ hz bp, wf, fun x hx => (od x hx).but hpz e6, hp6, ez.trans e6, e2z.but e6⟩
        · obtain ⟨z, v6', rfl, hz, wf, od, hpz, ez, _⟩ := h
          exact hZ _ _ ⟨z, v6', rfl, hz, wf, od, hpz, ez⟩
      · rintro _ H5 ⟨z, v6', rfl, hz, wf, od, hp5, e5⟩
        have hz6 : z.vs[ord i]? = some (z.at_ (ord i)) := Six.vs_at z ol
        have oz : Odd H5 (z.at_ (ord i)) := od _ (List.mem_of_getElem? hz6)
        have flt := wf.fault ok i5
        -- what is due
        refine seq_cut (fun σ' H' => ∃ (du : Addr), σ' = [some (.ref p), some (.ref l), some (.ref qo), some (.int (i : Nat)), some (.int (ord i)), some (.ref b), v6', some (.ref du), v8] ∧ H' du = some (.tup [.str (tagOf (if i ≤ 2 then 0 else 1)), z.at_ (ord i)]) ∧ Same H5 H' ∧ Pot H' p ∧ But p Ha H') (fun Z hZ => ?_) ?_
        · refine ⟨_, rfl, (by show 3 ≤ sizeLine; decide), fun t2 nt2 => ⟨_, _, rfl, .inl (SqL.of upd_same), rfl, by decide, _, rfl, ?_⟩⟩
          have hp6 := hp5.new (o := .lst [.int 0, .int 3, .int 4]) nt2
          have s6 : Same H5 _ := Same.new (o := .lst [.int 0, .int 3, .int 4]) nt2
          have fin : ∀ tg : Str, tg = tagOf (if i ≤ 2 then 0 else 1) → ∀ du, (upd H5 t2 (.lst [.int 0, .int 3, .int 4])) du = none → Z [some (.ref p), some (.ref l), some (.ref qo), some (.int (i : Nat)), some (.int (ord i)), some (.ref b), v6', some (.ref du), v8] (upd (upd H5 t2 (.lst [.int 0, .int 3, .int 4])) du (.tup [.str tg, z.at_ (ord i)])) := fun tg e du ndu => by
            subst e
            exact hZ _ _ ⟨du, rfl, upd_same, s6.trans (Same.new ndu), hp6.new ndu, (e5.trans (But.new nt2)).trans (But.new ndu)⟩
          have hat : atI z.vs (ord i : Int) = some (z.at_ (ord i)) := by
            have := atI_nat hz6
            exact this
          refine ite2 (fun c => ?_) (fun c => ?_)
          · refine ⟨_, rfl, _, rfl, b, z.vs, ord i, _, rfl, rfl, SqL.of (s6 _ _ hz), hat, (by show 2 ≤ sizeLine; decide), fun du ndu => fin "name" ?_ du ndu⟩
            match i, i5, c with
            | 0, _, _ => rfl
            | 1, _, _ => rfl
            | 2, _, _ => rfl
            | 3, _, c => exact absurd c (by decide)
            | 4, _, c => exact absurd c (by decide)
            | 5, _, c => exact absurd c (by decide)
          · refine ⟨_, rfl, _, rfl, b, z.vs, ord i, _, rfl, rfl, SqL.of (s6 _ _ hz), hat, (by show 2 ≤ sizeLine; decide), fun du ndu => fin "number" ?_ du ndu⟩
            match i, i5, c with
            | 0, _, c => exact absurd (by decide) c
            | 1, _, c => exact absurd (by decide) c
            | 2, _, c => exact absurd (by decide) c
            | 3, _, _ => rfl
            | 4, _, _ => rfl
            | 5, _, _ => rfl
        · rintro _ H6 ⟨du, rfl, hdu, s56, hp6, e6⟩
          have ht6 : LamX.Tabs [(Pt, lamName)] H6 := tabs_but hpa hta e6
          have hz7 : H6 b = some (.lst z.vs) := s56 _ _ hz
          refine ⟨ht6, fun H7 eN ht7 => ⟨_, rfl, b, z, rfl, SqL.of (eN _ _ hz7 lst_tbl), fun x hx => ((od x hx).same s56).ext eN, fun hf => (by rw [flt] at hf; cases hf), fun kk v hf d H8 s78 hd => ?_⟩⟩
          rw [flt] at hf
          obtain ⟨rfl, rfl⟩ := Prod.mk.inj (Option.some.inj hf)
          refine ⟨_, d, _, by split <;> decide, rfl, rfl, hd, fun tt ntt => ?_⟩
          have o9 : Odd (upd H8 tt (.tup [.str (tagOf (if i ≤ 2 then 0 else 1)), z.at_ (ord i)])) (z.at_ (ord i)) := (((oz.same s56).ext eN).same s78).same (Same.new ntt)
          obtain ⟨dd, dq, df, dh, dw⟩ := o9.data (K := K)
          have tg : fine (.str (tagOf (if i ≤ 2 then 0 else 1))) = true ∧ (tagOf (if i ≤ 2 then 0 else 1)).length ≤ 6 := by split <;> exact ⟨by decide +kernel, by decide +kernel⟩
          have ff : fine (.tuple [.str (tagOf (if i ≤ 2 then 0 else 1)), dd]) = true := by
            show (fine (.str _) && (fine dd && true)) = true
            rw [tg.1, df]
            rfl
          have ww : wt (.tuple [.str (tagOf (if i ≤ 2 then 0 else 1)), dd]) ≤ 1000000 := by
            show 10 * (tagOf (if i ≤ 2 then 0 else 1)).length + 2 + 2 + (wt dd + 2 + 0) + 3 ≤ 1000000
            have := tg.2
            omega
          have d8 : du ≠ tt := ne_of_none (s78 _ _ (eN _ _ hdu (fun _ z => by cases z))) ntt
          refine ⟨tt, _, _, dd, rfl, SqT.of upd_same, dq, ff, by omega, ww, _, rfl, du, _, _, dd, rfl, SqT.of ((upd_ne d8).trans (s78 _ _ (eN _ _ hdu (fun _ z => by cases z)))), dq, ff, by omega, ww, rfl, _, rfl, ?_⟩
          refine ite2 (fun c => absurd c (by simp)) (fun _ => ?_)
          exact ⟨_, _, _, _, _, _, rfl, ((hp6.xb eN).same s78).new ntt, (((ea.trans (XB.of e6)).trans (XB.ext eN)).trans (XB.of (But.of s78))).trans (XB.of (But.new ntt)), (ht7.ext s78).ext (Same.new ntt)⟩
    · obtain ⟨v3, v4, v5, v6, v7, v8, rfl, hpa, ea, hta⟩ := h
      have hl' : H' l = some (.lst (rowV r)) := ea _ _ (e0 _ _ hl hlp) hlp lst_tbl
      refine ⟨_, rfl, _, _, rfl, .inl (SqL.of hl'), fun em nem => ?_⟩
      have emp : em ≠ p := hpa.ne nem
      have lem : l ≠ em := ne_of_none hl' nem
      refine next_of ?_
      dsimp only
      refine ⟨(by show 2 ≤ sizeLine; decide), fun t2 nt2 => ⟨t2, _, rfl, SqT.of upd_same, rfl, _, _, rfl, _, rfl, em, rowV r, 1, 1, rfl, rfl, (upd_ne (ne_of_none upd_same nt2)).trans upd_same, rfl, _, _, rfl, _, rfl, em, (rowV r).set 1 (.int 0), 2, 2, rfl, rfl, upd_same, rfl, rfl, ?_⟩⟩
      have hpb := (hpa.new (o := .lst (rowV r)) nem).new (o := .tup [.int 0, .int 0]) nt2
      have hem2 : (upd (upd H' em (.lst (rowV r))) t2 (.tup [.int 0, .int 0])) em = some (.lst (rowV r)) := (upd_ne (ne_of_none upd_same nt2)).trans upd_same
      have e1 : But p H' (upd (upd H' em (.lst (rowV r))) t2 (.tup [.int 0, .int 0])) := (But.new nem).trans (But.new nt2)
      have hpc := (hpb.put (o := .lst ((rowV r).set 1 (.int 0))) emp).put (o := .lst (((rowV r).set 1 (.int 0)).set 2 (.int 0))) emp
      have e2 := But.set (o := .lst (((rowV r).set 1 (.int 0)).set 2 (.int 0))) nem (But.set (o := .lst ((rowV r).set 1 (.int 0))) nem e1)
      have hlc : But p H' (upd (upd (upd (upd H' em (.lst (rowV r))) t2 (.tup [.int 0, .int 0])) em (.lst ((rowV r).set 1 (.int 0)))) em (.lst (((rowV r).set 1 (.int 0)).set 2 (.int 0)))) := e2
      have htc := tabs_but hpa hta e2
      have hl2 := e2 _ _ hl' hlp
      refine ⟨htc, fun H7 eN ht7 => ⟨_, rfl, em, { r.six with t := .int 0, m := .int 0 }, rfl, SqL.of (eN _ _ upd_same lst_tbl), odd_put (z := r.six.put 1 (.int 0)) (k := 2) (odd_put (Row.odd ok _) (by decide) (.int 0 (by decide))) (by decide) (.int 0 (by decide)), fun hf => (by rw [empty_fault ok] at hf; cases hf), fun kk v hf d H8 s78 hd => ?_⟩⟩
      rw [empty_fault ok] at hf
      obtain ⟨rfl, rfl⟩ := Prod.mk.inj (Option.some.inj hf)
      refine ⟨_, d, _, by decide, rfl, rfl, hd, fun tt ntt => ?_⟩
      have hl8 := s78 _ _ (eN _ _ hl2 lst_tbl)
      have ff : fine (.tuple [.str "kind", .str r.name]) = true := by
        show (fine (.str _) && (fine (.str r.name) && true)) = true
        rw [show fine (.str r.name) = true from ok.name.sign]
        decide +kernel
      have nl := ok.name.2.1
      have ww : wt (.tuple [.str "kind", .str r.name]) ≤ 1000000 := by
        show 10 * 4 + 2 + 2 + (10 * r.name.length + 2 + 2 + 0) + 3 ≤ 1000000
        omega
      refine ⟨tt, _, _, .str r.name, rfl, SqT.of upd_same, .of (.str _), ff, (by show 0 < 8; decide), ww, _, rfl, l, rowV r, 0, _, rfl, rfl, SqL.of ((Same.new ntt) _ _ hl8), rfl, (by show 2 ≤ sizeLine; decide), fun du ndu => ?_⟩
      refine ⟨du, _, _, .str r.name, rfl, SqT.of upd_same, .of (.str _), ff, (by show 0 < 8; decide), ww, ?_⟩
      have kk := k (upd (upd H8 tt (.tup [.str (tagOf 2), .str r.name])) du (.tup [.str "kind", .str r.name])) (((hpc.xb eN).same s78).new ntt |>.new ndu) (((((((XB.of e0).trans ea).trans (XB.of e2)).trans (XB.ext eN)).trans (XB.of (But.of s78))).trans (XB.of (But.new ntt))).trans (XB.of (But.new ndu))) (((ht7.ext s78).ext (Same.new ntt)).ext (Same.new ndu))
      refine ⟨rfl, cast (congrArg (fun b => Q (V.bl b) (upd (upd H8 tt (.tup [.str (tagOf 2), .str r.name])) du (.tup [.str "kind", .str r.name]))) (@decide_eq_true (V.str (PyData.tuple [.str (tagOf 2), .str r.name]).shown = V.str (PyData.tuple [.str "kind", .str r.name]).shown) _ rfl).symm) kk⟩
end
end N

set_option maxHeartbeats 4000000
namespace N
open PySem L2
/-! ### all of it -/
def spRight (T : List (Addr × Str)) : Sp := fun vs H Q _ => ∃ p : Addr, vs = [.ref p] ∧ Pot H p ∧ LamX.Tabs T H ∧ ∀ H', Pot H' p → XB p H H' → LamX.Tabs T H' → Q (.bl true) H'
theorem paired_at {α β : Type} {F : α → β → Prop} : ∀ {l : List α} {m : List β} {j : Nat} {a : α}, Paired F l m → l[j]? = some a → ∃ b, F a b
  | _, _, 0, _, .cons x _, h => ⟨_, (Option.some.inj h) ▸ x⟩
  | _, _, j + 1, _, .cons _ y, h => paired_at (j := j) y h
theorem row_refl (r : Row) : PyData.eqv (.tuple (rowD r)) (.tuple (rowD r)) = true := by
  have o : ∀ o : Option Str, PyData.eqv (od o) (od o) = true := fun o => by cases o <;> simp [od, PyData.eqv]
  simp [rowD, PyData.eqv, PyData.eqvAll, o]
section
variable {K : PySem.W.Frag} {mg : Str → Option Value} {C : Addr} {Cs : Nat → Addr} {H : Hp} {a b : Addr} {r u : Row} {Q : VK}
theorem eq_kinds (T : KindT K mg C Cs) (ha : KindAt C H a r) (hb : KindAt C H b u) (okr : KindOk r) (oku : KindOk u) {c : Bool} (e : PyData.eqv (.tuple (rowD r)) (.tuple (rowD u)) = c) (k : ∀ H', Same H H' → Q (.bl c) H') : rCmpOwn K C (spEqK K C) E0 (.ref a) (.ref b) H Q := by
  obtain ⟨da, ea⟩ := id ha
  obtain ⟨db, eb⟩ := id hb
  exact ⟨a, da, _, .ref C, rfl, ea, T.own.ty eb, notFirst_self, a, .ref b, r, rfl, ha, okr, .inl ⟨b, u, rfl, hb, oku, fun H' s => e ▸ k H' s⟩⟩
theorem ne_kinds (T : KindT K mg C Cs) (ha : KindAt C H a r) (hb : KindAt C H b u) (okr : KindOk r) (oku : KindOk u) {c : Bool} (e : PyData.eqv (.tuple (rowD r)) (.tuple (rowD u)) = c) (k : ∀ H', Same H H' → Q (.bl (!c)) H') : rNeOwn K C (spEqK K C) E0 (.ref a) (.ref b) H Q := by
  obtain ⟨da, ea⟩ := id ha
  obtain ⟨db, eb⟩ := id hb
  exact ⟨a, da, _, .ref C, rfl, ea, T.own.ty eb, notFirst_self, a, .ref b, r, rfl, ha, okr, .inl ⟨b, u, rfl, hb, oku, fun H' s => ⟨c, congrArg V.bl e, k H' s⟩⟩⟩
theorem eq_other (ha : KindAt C H a r) (okr : KindOk r) {o : V} {Tn : String} (ty : TyX K H o (.type Tn)) (sb : PySem.W.subIn K (.type Tn) (.ref C) = some false) (k : Q (.bl false) H) : rCmpOwn K C (spEqK K C) E0 (.ref a) o H Q := by
  obtain ⟨da, ea⟩ := id ha
  exact ⟨a, da, _, _, rfl, ea, ty, notFirst_ty sb, a, o, r, rfl, ha, okr, .inr ⟨Tn, ty, sb, k⟩⟩
theorem ne_other (ha : KindAt C H a r) (okr : KindOk r) {o : V} {Tn : String} (ty : TyX K H o (.type Tn)) (sb : PySem.W.subIn K (.type Tn) (.ref C) = some false) (k : Q (.bl true) H) : rNeOwn K C (spEqK K C) E0 (.ref a) o H Q := by
  obtain ⟨da, ea⟩ := id ha
  exact ⟨a, da, _, _, rfl, ea, ty, notFirst_ty sb, a, o, r, rfl, ha, okr, .inr ⟨Tn, ty, sb, false, rfl, k⟩⟩
end
section
variable {P : Program} {w : World} {K : PySem.W.Frag} {mg : Str → Option Value} {base : Heap} {C : Addr} {Cs : Nat → Addr}
abbrev s__law_right : Stmt := top 30
theorem sc__law_right : FnScope ["_law_pot_here", "_law_row", "_law_one", "_law_twin", "_law_bare", "_law_other"] ["_law_pot_here"] (defScope s__law_right) := ⟨rfl, rfl, rfl, by decide +kernel, rfl, by decide +kernel, by decide +kernel⟩
theorem h_law_right (B : Blts mg) (T : KindT K mg C Cs) {Pt : Addr} (F : FunAt K mg "_law_right" "_law_right" s__law_right)
    (hne : PySem.W.findIn K (.ref C) "__ne__" = some (some (.builtin "object.__ne__")))
    (nN : PySem.W.subIn K (.type "NoneType") (.ref C) = some false) (nS : PySem.W.subIn K (.type "str") (.ref C) = some false) (nT : PySem.W.subIn K (.type "tuple") (.ref C) = some false) (nL : PySem.W.subIn K (.type "list") (.ref C) = some false) (nI : PySem.W.subIn K (.type "int") (.ref C) = some false)
    (mE : HasM P w K mg base C "__eq__" 4 ["self", "other"] (spEqK K C)) (mR : HasM P w K mg base C "__repr__" 1 ["self"] (spReprK C))
    (hKind6 : MakX P w K mg base "Kind" C 4 0 ["self", "name", "takes", "makes", "back", "mirror", "yarn"] ["yarn", "mirror", "back", "makes", "takes", "name"] (spKind C Cs) turn6)
    (hKindD : MakD P w K mg base "Kind" C 4 ["self", "name", "takes", "makes", "back", "mirror", "yarn"] (spKind C Cs) [.non, .non, .int 1])
    (h_law_fields : Has P w K mg base "_law_fields" 4 ["_law_pot_here"] spFields) (h_law_kind : HasX P w K mg base "_law_kind" 6 ["_law_row"] (spLawKind K C Cs)) (h_law_is_kind : HasG P w K mg base "_law_is_kind" 3 ["_law_one", "_law_row"] (spIsKind K C))
    (h_law_others : Has P w K mg base "_law_others" 3 ["_law_pot_here", "_law_row"] spOthers) (h_law_refusals : HasG P w K mg base "_law_refusals_right" 9 ["_law_pot_here", "_law_row"] (spRefusals [(Pt, lamName)])) :
    HasG P w K mg base "_law_right" 10 ["_law_pot_here"] (spRight [(Pt, lamName)]) := by
  refine hasG_of F sc__law_right (fun _ _ _ _ _ _ us hl => match us, hl with | [_], _ => rfl) (fun vs H Q E h => ?_) (fun f cdv A outer s H vs Q E hG hr h => ?_)
  · obtain ⟨p, rfl, _⟩ := h
    rfl
  · obtain ⟨p, rfl, hp, ht, k⟩ := h
    refine ⟨_, (pss_cons (ps_set (i := 1) sc__law_right.nd rfl (Or.inl rfl) (pe_has h_law_fields (hr.mono (by decide)) (pa_cons (pv 0) pa_nil)))
      (pss_cons (ps_par (i := 2) (j := 3) (by rfl) sc__law_right.nd rfl rfl (by decide) rfl rfl (pa_cons (pe_hasX h_law_kind (hr.mono (by decide)) passL (pa_cons (pv 1) pa_nil)) (pa_cons (pe_makX0 hKind6 (hr.mono (by decide)) passL (pk_cons (pe_ix ix_list (pv 1) pe_int (fun _ _ => rfl)) (pk_cons (pe_ix ix_list (pv 1) pe_int (fun _ _ => rfl)) (pk_cons (pe_ix ix_list (pv 1) pe_int (fun _ _ => rfl)) (pk_cons (pe_ix ix_list (pv 1) pe_int (fun _ _ => rfl)) (pk_cons (pe_ix ix_list (pv 1) pe_int (fun _ _ => rfl)) (pk_cons (pe_ix ix_list (pv 1) pe_int (fun _ _ => rfl)) pk_nil))))))) pa_nil)) (by rfl))
      (pss_cons (ps_if (PW.pt (pw_or (pt_not (pt_val (pe_hasG h_law_is_kind (hr.mono (by decide)) hG (pa_cons (pv 2) (pa_cons (pv 1) pa_nil))))) (pw_or (pt_not (pt_val (pe_hasG h_law_is_kind (hr.mono (by decide)) hG (pa_cons (pv 3) (pa_cons (pv 1) pa_nil))))) (pw_or (pt_cmpR (op_neKind T.own.mo hne mE (hr.mono (by decide))) (pv 2) (pv 3) (by first | exact nomark _ | rfl)) (pw_or1 (pt_not (pt_cmpR (op_eqKind mE (hr.mono (by decide))) (pv 2) (pv 3) (by first | exact nomark _ | rfl)))))))) (pss_one (ps_ret pe_bl))
        pss_nil)
      (pss_cons (ps_set (i := 4) sc__law_right.nd rfl (Or.inl rfl) (pe_lst (pa_cons (pe_ix ix_list (pv 1) pe_int (fun _ _ => rfl)) (pa_cons (pe_ix ix_list (pv 1) pe_int (fun _ _ => rfl)) (pa_cons (pe_ix ix_list (pv 1) pe_int (fun _ _ => rfl)) (pa_cons pe_non (pa_cons pe_non (pa_cons pe_int pa_nil))))))))
      (pss_cons (ps_if (PW.pt (pw_or (pt_not (pt_val (pe_hasG h_law_is_kind (hr.mono (by decide)) hG (pa_cons (pe_makD hKindD (hr.mono (by decide)) passL (pa_cons (pe_ix ix_list (pv 1) pe_int (fun _ _ => rfl)) (pa_cons (pe_ix ix_list (pv 1) pe_int (fun _ _ => rfl)) (pa_cons (pe_ix ix_list (pv 1) pe_int (fun _ _ => rfl)) pa_nil)))) (pa_cons (pv 4) pa_nil))))) (pw_or1 (pt_cmpR (op_neKind T.own.mo hne mE (hr.mono (by decide))) (pe_makD hKindD (hr.mono (by decide)) passL (pa_cons (pe_ix ix_list (pv 1) pe_int (fun _ _ => rfl)) (pa_cons (pe_ix ix_list (pv 1) pe_int (fun _ _ => rfl)) (pa_cons (pe_ix ix_list (pv 1) pe_int (fun _ _ => rfl)) pa_nil)))) (pe_hasX h_law_kind (hr.mono (by decide)) passL (pa_cons (pv 4) pa_nil)) (by first | exact nomark _ | rfl))))) (pss_one (ps_ret pe_bl))
        pss_nil)
      (pss_cons (ps_for PassesOwn.never rfl (pi_list (pe_has h_law_others (hr.mono (by decide)) (pa_cons (pv 0) (pa_cons (pv 1) pa_nil)))) (pg_name (i := 5) sc__law_right.nd rfl (Or.inl rfl))
        (pss_one (ps_if (PW.pt (pw_or (pt_cmpR (op_eqKind mE (hr.mono (by decide))) (pv 2) (pe_hasX h_law_kind (hr.mono (by decide)) passL (pa_cons (pv 5) pa_nil)) (by first | exact nomark _ | rfl)) (pw_or1 (pt_not (pt_cmpR (op_neKind T.own.mo hne mE (hr.mono (by decide))) (pv 2) (pe_hasX h_law_kind (hr.mono (by decide)) passL (pa_cons (pv 5) pa_nil)) (by first | exact nomark _ | rfl)))))) (pss_one (ps_ret pe_bl))
          pss_nil)))
      (pss_cons (ps_for PassesOwn.never rfl (pi_list (pe_lst (pa_cons pe_non (pa_cons (pe_ix ix_list (pv 1) pe_int (fun _ _ => rfl)) (pa_cons (pe_callTy call_tuple_of (by rfl) B.n_tuple (by decide +kernel) (pa_cons (pv 1) pa_nil)) (pa_cons (pv 1) (pa_cons pe_int (pa_cons (pe_callB (call_reprKind mR (hr.mono (by decide))) (by rfl) B.n_repr (by decide +kernel) (pa_cons (pv 2) pa_nil)) pa_nil)))))))) (pg_name (i := 5) sc__law_right.nd rfl (Or.inl rfl))
        (pss_one (ps_if (PW.pt (pw_or (pt_cmpR (op_eqKind mE (hr.mono (by decide))) (pv 2) (pv 5) (by first | exact nomark _ | rfl)) (pw_or1 (pt_not (pt_cmpR (op_neKind T.own.mo hne mE (hr.mono (by decide))) (pv 2) (pv 5) (by first | exact nomark _ | rfl)))))) (pss_one (ps_ret pe_bl))
          pss_nil)))
      (pss_one (ps_ret (pe_and (pe_hasG h_law_refusals (hr.mono (by decide)) hG (pa_cons (pv 0) (pa_cons (pv 1) pa_nil))) (pe_one (pe_hasG h_law_is_kind (hr.mono (by decide)) hG (pa_cons (pv 2) (pa_cons (pv 1) pa_nil)))))))))))))), ?_⟩
    refine ⟨_, rfl, p, rfl, hp, fun q r H1 nq hq ok hp1 e1 => ?_⟩
    have qp : q ≠ p := hp.ne nq
    refine next_of ?_
    dsimp only
    have nf : r.six.fault = none := Row.sound ok
    refine ⟨_, rfl, q, r.six, rfl, SqL.of hq, Row.odd ok _, fun _ a dx H2 na ha s12 => ?_, fun kk v hf => (by rw [nf] at hf; cases hf)⟩
    have hq2 := s12 _ _ hq
    refine ⟨_, rfl, _, _, 5, _, rfl, rfl, SqL.of hq2, rfl, _, rfl, _, _, 4, _, rfl, rfl, SqL.of hq2, rfl, _, rfl, _, _, 3, _, rfl, rfl, SqL.of hq2, rfl, _, rfl, _, _, 2, _, rfl, rfl, SqL.of hq2, rfl, _, rfl, _, _, 1, _, rfl, rfl, SqL.of hq2, rfl, _, rfl, _, _, 0, _, rfl, rfl, SqL.of hq2, rfl, rfl, rfl, fun b db hb hdb ne => ?_⟩
    refine ⟨b, db, r.six, rfl, upd_same, Row.odd ok _, fun _ H3 hkb e3 => ⟨rfl, ?_⟩, fun kk v hf => (by rw [nf] at hf; cases hf)⟩
    have s23 : Same H2 H3 := made_same hb hdb e3
    have hq3 := s23 _ _ hq2
    have ka : KindAt C H3 a r := ⟨dx, s23 _ _ ha⟩
    have kb : KindAt C H3 b r := ⟨db, hkb⟩
    refine ⟨_, _, rfl, _, rfl, _, rfl, a, q, r, rfl, ka, SqL.of hq3, ok, fun H4 s34 => ⟨_, rfl, ite2 (fun c => absurd c (by simp)) (fun _ => ?_)⟩⟩
    refine ⟨_, rfl, _, rfl, b, q, r, rfl, kb.same s34, SqL.of (s34 _ _ hq3), ok, fun H5 s45 => ⟨_, rfl, ite2 (fun c => absurd c (by simp)) (fun _ => ?_)⟩⟩
    have s35 := s34.trans s45
    refine ⟨_, rfl, _, rfl, ne_kinds T (ka.same s35) (kb.same s35) ok ok (row_refl r) fun H6 s56 => ⟨_, rfl, ite2 (fun c => absurd c (by simp)) (fun _ => ?_)⟩⟩
    have s36 := s35.trans s56
    refine ⟨_, rfl, _, rfl, eq_kinds T (ka.same s36) (kb.same s36) ok ok (row_refl r) fun H7 s67 => ⟨_, rfl, ite2 (fun c => absurd c (by simp)) (fun _ => ?_)⟩⟩
    have s17 : Same H1 H7 := (s12.trans s23).trans (s36.trans s67)
    have s37 := s36.trans s67
    have hq7 := s17 _ _ hq
    refine next_of ?_
    dsimp only
    refine ⟨_, rfl, _, _, 0, _, rfl, rfl, SqL.of hq7, rfl, _, rfl, _, _, 1, _, rfl, rfl, SqL.of hq7, rfl, _, rfl, _, _, 2, _, rfl, rfl, SqL.of hq7, rfl, (by show 6 ≤ sizeLine; decide), fun bl nbl => ?_⟩
    refine next_of ?_
    dsimp only
    let u0 : Row := { r with back := none, mirror := none, yarn := 1 }
    have ok0 : KindOk u0 := { name := ok.name, takes := ok.takes, makes := ok.makes, some_ := ok.some_, back := (fun _ h => nomatch h), mirror := (fun _ h => nomatch h), yarn := (by decide : (0 : Int) ≤ 1 ∧ (1 : Int) ≤ 999) }
    have nf0 : u0.six.fault = none := Row.sound ok0
    have nq7 : bl ≠ q := (ne_of_none hq7 nbl).symm
    have s78 : Same H7 (upd H7 bl (.lst (rowV u0))) := Same.new nbl
    have hq8 := s78 _ _ hq7
    have hb8 : (upd H7 bl (.lst (rowV u0))) bl = some (.lst (rowV u0)) := upd_same
    refine ⟨_, rfl, _, _, 0, _, rfl, rfl, SqL.of hq8, rfl, _, rfl, _, _, 1, _, rfl, rfl, SqL.of hq8, rfl, _, rfl, _, _, 2, _, rfl, rfl, SqL.of hq8, rfl, fun x1 dx1 hx1 hdx1 ne1 => ?_⟩
    refine ⟨x1, dx1, u0.six, rfl, upd_same, Row.odd ok0 _, fun _ H9 hk9 e9 => ⟨rfl, ?_⟩, fun kk v hf => (by rw [nf0] at hf; cases hf)⟩
    have s89 := made_same hx1 hdx1 e9
    refine ⟨_, rfl, x1, bl, u0, rfl, ⟨dx1, hk9⟩, SqL.of (s89 _ _ hb8), ok0, fun H10 s910 => ⟨_, rfl, ite2 (fun c => absurd c (by simp)) (fun _ => ?_)⟩⟩
    have s810 := s89.trans s910
    have hq10 := s810 _ _ hq8
    refine ⟨_, rfl, _, _, 0, _, rfl, rfl, SqL.of hq10, rfl, _, rfl, _, _, 1, _, rfl, rfl, SqL.of hq10, rfl, _, rfl, _, _, 2, _, rfl, rfl, SqL.of hq10, rfl, fun x2 dx2 hx2 hdx2 ne2 => ?_⟩
    refine ⟨x2, dx2, u0.six, rfl, upd_same, Row.odd ok0 _, fun _ H11 hk11 e11 => ⟨rfl, ?_⟩, fun kk v hf => (by rw [nf0] at hf; cases hf)⟩
    have s1011 := made_same hx2 hdx2 e11
    have s811 := s810.trans s1011
    refine ⟨_, rfl, bl, u0.six, rfl, SqL.of (s811 _ _ hb8), Row.odd ok0 _, fun _ x3 dx3 H12 nx3 hx3 s1112 => ?_, fun kk v hf => (by rw [nf0] at hf; cases hf)⟩
    refine ne_kinds (u := u0) T (r := u0) ⟨dx2, s1112 _ _ hk11⟩ ⟨dx3, hx3⟩ ok0 ok0 (row_refl u0) fun H13 s1213 => ⟨_, rfl, ite2 (fun c => absurd c (by simp)) (fun _ => ?_)⟩
    have s713 : Same H7 H13 := ((s78.trans s811).trans s1112).trans s1213
    have s113 := s17.trans s713
    have s313 := s37.trans s713
    have hq13 := s113 _ _ hq
    have hp13 : Pot H13 p := hp1.same s113
    refine next_of ?_
    dsimp only
    -- rows of another kind
    refine ⟨_, rfl, _, rfl, p, q, r, rfl, hp13, hq13, qp, ok, fun qo ps us H14 nqo hqo pairs hp14 e1314 => ?_⟩
    have qop : qo ≠ p := hp13.ne nqo
    refine ⟨qo, rfl, ⟨_, SqL.of hqo⟩, for_list (K := K) (a := qo) (xs := ps.map V.ref) (fun j σ H' => ∃ v5 : Option V, σ = [some (.ref p), some (.ref q), some (.ref a), some (.ref b), some (.ref bl), v5] ∧ Same H14 H')
      ⟨none, rfl, fun _ _ h => h⟩ (fun j σ H' _ h => ?_) (fun j x σ H' hx h => ?_) (fun σ H' h => ?_)⟩
    · obtain ⟨_, _, e⟩ := h
      exact SqL.of (e _ _ hqo)
    · obtain ⟨v5, rfl, e⟩ := h
      obtain ⟨cj, hcj, rfl⟩ : ∃ cj, ps[j]? = some cj ∧ x = V.ref cj := by
        rw [List.getElem?_map] at hx
        cases q : ps[j]? with
        | none => rw [q] at hx; cases hx
        | some c => rw [q] at hx; exact ⟨c, rfl, (Option.some.inj hx).symm⟩
      obtain ⟨u, hu, oku, un⟩ := paired_at pairs hcj
      have nfu := Row.sound oku
      have ka2 : KindAt C H' a r := ((ka.same s313).but hp13 e1314).same e
      refine ⟨_, rfl, _, rfl, cj, u.six, rfl, SqL.of (e _ _ hu), Row.odd oku _, fun _ y dy H2 ny hy sy => ?_, fun kk v hf => (by rw [nfu] at hf; cases hf)⟩
      refine eq_kinds T (ka2.same sy) ⟨dy, hy⟩ ok oku un fun H3 s3 => ⟨_, rfl, ite2 (fun c => absurd c (by simp)) (fun _ => ?_)⟩
      have sz := sy.trans s3
      refine ⟨_, rfl, _, rfl, cj, u.six, rfl, SqL.of (sz _ _ (e _ _ hu)), Row.odd oku _, fun _ y dy H4 ny hy sy => ?_, fun kk v hf => (by rw [nfu] at hf; cases hf)⟩
      refine ne_kinds T ((ka2.same sz).same sy) ⟨dy, hy⟩ ok oku un fun H5 s5 => ⟨_, rfl, ite2 (fun c => absurd c (by simp)) (fun _ => ?_)⟩
      exact ⟨_, rfl, ((e.trans sz).trans sy).trans s5⟩
    · obtain ⟨v5, rfl, e⟩ := h
      have e1b : But p H13 H' := e1314.trans (But.of e)
      have ka3 : KindAt C H' a r := (ka.same s313).but hp13 e1b
      obtain ⟨da, ha3⟩ := id ka3
      have hq14 : H' q = some (.lst (rowV r)) := e1b _ _ hq13 qp
      have hp15 : Pot H' p := hp14.same e
      refine next_of ?_
      dsimp only
      -- what is no kind
      refine ⟨_, rfl, _, _, 0, _, rfl, rfl, SqL.of hq14, rfl, _, rfl, q, _, rfl, .inl ⟨SqL.of hq14, fun tt ntt => ⟨_, rfl, _, rfl, a, da, _, rfl, (Same.new ntt) _ _ ha3, a, r, rfl, ka3.same (Same.new ntt), ok, fun H6 s6 => ⟨_, rfl, (by show 6 ≤ sizeLine; decide), fun lo nlo => ?_⟩⟩⟩⟩
      have s1 : Same H' (upd H' tt (.tup (rowV r))) := Same.new ntt
      have s2 : Same H' (upd H6 lo (.lst [.non, .str r.name, .ref tt, .ref q, .int 1, .str (kindText r)])) := (s1.trans s6).trans (Same.new nlo)
      have ka4 := ka3.same s2
      have hql := s2 _ _ hq14
      have htl := ((s6.trans (Same.new nlo) : Same _ (upd H6 lo (.lst [.non, .str r.name, .ref tt, .ref q, .int 1, .str (kindText r)])))) _ _ (upd_same (o := HO.tup (rowV r)))
      have tys : ∀ j x, [V.non, .str r.name, .ref tt, .ref q, .int 1, .str (kindText r)][j]? = some x → ∃ Tn : String, TyX K (upd H6 lo (.lst [.non, .str r.name, .ref tt, .ref q, .int 1, .str (kindText r)])) x (.type Tn) ∧ PySem.W.subIn K (.type Tn) (.ref C) = some false := fun j x h => by
        have hm := List.mem_of_getElem? h
        simp only [List.mem_cons, List.mem_nil_iff, or_false] at hm
        rcases hm with rfl | rfl | rfl | rfl | rfl | rfl
        · exact ⟨_, .base .non, nN⟩
        · exact ⟨_, .base (.str _), nS⟩
        · exact ⟨_, .base (.tup htl), nT⟩
        · exact ⟨_, .base (.lst hql), nL⟩
        · exact ⟨_, .base (.int _), nI⟩
        · exact ⟨_, .base (.str _), nS⟩
      have but : But p H (upd H6 lo (.lst [.non, .str r.name, .ref tt, .ref q, .int 1, .str (kindText r)])) := ((e1.trans (But.of s113)).trans e1b).trans (But.of s2)
      refine ⟨lo, rfl, ⟨_, SqL.of upd_same⟩, for_list (K := K) (a := lo) (xs := [.non, .str r.name, .ref tt, .ref q, .int 1, .str (kindText r)]) (fun j σ HH => ∃ v5 : Option V, σ = [some (.ref p), some (.ref q), some (.ref a), some (.ref b), some (.ref bl), v5] ∧ HH = upd H6 lo (.lst [.non, .str r.name, .ref tt, .ref q, .int 1, .str (kindText r)]))
        ⟨v5, rfl, rfl⟩ (fun j σ HH _ h => ?_) (fun j x σ HH hx h => ?_) (fun σ HH h => ?_)⟩
      · obtain ⟨_, _, rfl⟩ := h
        exact SqL.of upd_same
      · obtain ⟨v5, rfl, rfl⟩ := h
        obtain ⟨Tn, ty, sb⟩ := tys j x hx
        refine ⟨_, rfl, _, rfl, eq_other ka4 ok ty sb ⟨_, rfl, ite2 (fun c => absurd c (by simp)) (fun _ => ?_)⟩⟩
        refine ⟨_, rfl, _, rfl, ne_other ka4 ok ty sb ⟨_, rfl, ite2 (fun c => absurd c (by simp)) (fun _ => ?_)⟩⟩
        exact ⟨_, rfl, rfl⟩
      · obtain ⟨v5, rfl, rfl⟩ := h
        refine ⟨_, rfl, _, rfl, p, q, r, rfl, hp15.same s2, tabs_but hp ht but, hql, qp, ok, fun H8 hp8 x8 ht8 => ?_⟩
        obtain ⟨d8, h8⟩ := id ka4
        have ap : a ≠ p := fun z => by
          obtain ⟨y1, y2, y3, _⟩ := hp15.same s2
          rw [z, y3] at h8
          cases h8
        have h9 := x8 _ _ h8 ap (fun _ z => by cases z)
        have hq9 := x8 _ _ hql qp lst_tbl
        refine ⟨_, rfl, iteT ?_⟩
        refine ⟨_, rfl, _, rfl, a, q, r, rfl, ⟨d8, h9⟩, SqL.of hq9, ok, fun H9 s9 => ?_⟩
        exact k _ (hp8.same s9) (((XB.of but).trans x8).trans (XB.of (But.of s9))) (ht8.ext s9)
end
end N

set_option maxHeartbeats 4000000
namespace N
open PySem L2
/-! ### the law -/
def spLaw (K : PySem.W.Frag) (T : List (Addr × Str)) : Sp := fun vs H Q _ => ∃ (a : Addr) (ns : List Int), vs = [.ref a] ∧ SqL K H a (ns.map V.int) ∧ ns.length ≤ 63 ∧ LamX.Tabs T H ∧ ∀ H', Q (.bl true) H'
theorem seq_ext {K : PySem.W.Frag} {H H' : Hp} {a : Addr} {xs : List V} (h : SqL K H a xs) (e : LamX.ExtN H H') : SqL K H' a xs :=
  h.elim (fun h => .inl (h.elim (fun h => .inl (e _ _ h fun _ z => by cases z)) fun ⟨o, h⟩ => .inr ⟨o, e _ _ h fun _ z => by cases z⟩)) fun h => .inr h
theorem ext_of_xb {p : Addr} {H H1 H2 : Hp} (np : H p = none) (s : Same H H1) (e : XB p H1 H2) : LamX.ExtN H H2 := fun b o h n => e b o (s b o h) (ne_of_none h np) n
section
variable {P : Program} {w : World} {K : PySem.W.Frag} {mg : Str → Option Value} {base : Heap} {C : Addr} {Cs : Nat → Addr}
abbrev s_law : Stmt := top 31
theorem sc_law : FnScope ["_law_script", "_law_k", "_law_pot_here", "_law_turn"] ["_law_script"] (defScope s_law) := ⟨rfl, rfl, rfl, by decide +kernel, rfl, by decide +kernel, by decide +kernel⟩
theorem ok_law {f : Addr} {fd : FuncData} {Pt : Addr} (B : Blts mg) (F : Fun K "law" "law" s_law f fd) (h_law_right : HasG P w K mg base "_law_right" 10 ["_law_pot_here"] (spRight [(Pt, lamName)])) (h_law_pot : Has P w K mg base "_law_pot" 1 ["_law_script", "_law_k"] (spPot K)) : FnG P w K mg base CX0 11 f fd ["_law_script"] (spLaw K [(Pt, lamName)]) := by
  refine F.okG sc_law (fun vs H Q E h => ?_) (fun cdv A outer s H vs Q E hG hr h => ?_)
  · obtain ⟨_, _, rfl, _⟩ := h
    rfl
  · obtain ⟨a, ns, rfl, hS, hn, ht, k⟩ := h
    refine ⟨_, (pss_cons (ps_for PassesOwn.never rfl (pi_range1 (by rfl) B.n_range (pa_cons (pe_callB (call_max2 rfl) (by rfl) B.n_max (by decide +kernel) (pa_cons pe_int (pa_cons (pe_callB (call_min2 rfl) (by rfl) B.n_min (by decide +kernel) (pa_cons pe_int (pa_cons (pe_callB call_len (by rfl) B.n_len PySem.boot_len (pa_cons (pv 0) pa_nil)) pa_nil))) pa_nil))) pa_nil)) (pg_name (i := 1) sc_law.nd rfl (Or.inl rfl))
        (pss_cons (ps_set (i := 2) sc_law.nd rfl (Or.inl rfl) (pe_has h_law_pot (hr.mono (by decide)) (pa_cons (pv 0) (pa_cons (pv 1) pa_nil))))
        (pss_one (ps_for PassesOwn.never rfl (pi_range1 (by rfl) B.n_range (pa_cons pe_int pa_nil)) (pg_name (i := 3) sc_law.nd rfl (Or.inl rfl))
          (pss_one (ps_if (pt_not (pt_val (pe_hasG h_law_right (hr.mono (by decide)) hG (pa_cons (pv 2) pa_nil)))) (pss_one (ps_ret pe_bl))
            pss_nil))))))
      (pss_one (ps_ret pe_bl))), ?_⟩
    obtain ⟨n, hn0, hn1, hne⟩ : ∃ n : Nat, n < 1000 ∧ n ≤ 63 ∧ (if (if (ns.length : Int) < (6 : Int) then (ns.length : Int) else (6 : Int)) > 1 then (if (ns.length : Int) < (6 : Int) then (ns.length : Int) else (6 : Int)) else 1) = (n : Int) := by
      refine ⟨(if (if (ns.length : Int) < (6 : Int) then (ns.length : Int) else (6 : Int)) > 1 then (if (ns.length : Int) < (6 : Int) then (ns.length : Int) else (6 : Int)) else 1).toNat, ?_, ?_, ?_⟩ <;> (repeat' split) <;> omega
    refine ⟨_, rfl, _, ns.length, rfl, .inl ⟨_, hS, by rw [List.length_map]⟩, _, _, rfl, _, _, rfl, ?_⟩
    rw [hne]
    refine ⟨(n : Int), rfl, by omega, by omega, ?_⟩
    rw [Int.toNat_natCast]
    refine for_range (n := n) (fun i σ H' => ∃ v1 v2 v3 : Option V, σ = [some (.ref a), v1, v2, v3] ∧ SqL K H' a (ns.map V.int) ∧ LamX.Tabs [(Pt, lamName)] H') ⟨none, none, none, rfl, hS, ht⟩ (fun i σ H1 hi h => ?_) (fun σ H1 h => ?_)
    · obtain ⟨v1, v2, v3, rfl, hS1, ht1⟩ := h
      refine ⟨_, rfl, _, rfl, a, ns, i, (by show [V.ref a, V.int (0 + (i : Int))] = _; rw [Int.zero_add]), hS1, hn, by omega, fun p H2 np hp s12 => ?_⟩
      refine next_of ?_
      dsimp only
      refine ⟨4, rfl, by decide, by decide, for_range (n := 4) (fun j σ H' => ∃ v3 : Option V, σ = [some (.ref a), some (.int (0 + (i : Int))), some (.ref p), v3] ∧ Pot H' p ∧ XB p H2 H' ∧ LamX.Tabs [(Pt, lamName)] H') ⟨v3, rfl, hp, XB.refl, ht1.ext s12⟩ (fun j σ H3 hj h => ?_) (fun σ H3 h => ?_)⟩
      · obtain ⟨v3, rfl, hp3, x3, ht3⟩ := h
        refine ⟨_, rfl, p, rfl, hp3, ht3, fun H4 hp4 x4 ht4 => ⟨_, rfl, ite2 (fun c => absurd c (by simp)) (fun _ => ?_)⟩⟩
        exact ⟨_, rfl, hp4, x3.trans x4, ht4⟩
      · obtain ⟨v3, rfl, hp3, x3, ht3⟩ := h
        exact ⟨_, _, _, rfl, seq_ext hS1 (ext_of_xb np s12 x3), ht3⟩
    · obtain ⟨v1, v2, v3, rfl, _, _⟩ := h
      exact k _
end
end N

set_option maxHeartbeats 8000000
namespace L2
open PySem PySem.Spec PyProof.Rows
section
variable {K : PySem.W.Frag} {mg : Str → Option Value} {h : Heap}
/-- a def with keyword-only defaults -/
theorem funK_mk {x qual : Str} {st : Stmt} {f D : Addr} {kws : List (Str × V)} {oc : Value} {od an : Option Addr} {osl : Array (Option Value)} {doc pm cdv ct : Value}
    (l : K.lookup f = some ⟨oc, od, .func (PySem.W.fnOf x qual (defArgs st) (defBody st) (defScope st) .none (.ref D) doc pm an cdv ct), osl⟩) (c : PySem.W.codeIn K cdv qual = true) (k : PySem.W.keepIn K (.ref f) = true)
    (d : ∀ q ∈ kws, ∃ u, PySem.W.nsIn K D q.1 = some (some u) ∧ RelV q.2 u) : FunD K x qual (defArgs st) (defBody st) (defScope st) [] kws f (PySem.W.fnOf x qual (defArgs st) (defBody st) (defScope st) .none (.ref D) doc pm an cdv ct) :=
  ⟨⟨oc, od, .none, .ref D, doc, pm, an, cdv, ct, osl, rfl, l, c, .inl ⟨rfl, rfl⟩, .inr ⟨D, rfl, d⟩⟩, k⟩
theorem funAtC_mk {x qual : Str} {st : Stmt} {f c : Addr} {oc : Value} {od an : Option Addr} {osl : Array (Option Value)} {kV doc pm ct : Value} (X : K.In h) (G : h.Ns mainGlobals mg) (a : PySem.W.nsIn K mainGlobals x = some (some (.ref f)))
    (l : K.lookup f = some ⟨oc, od, .func (PySem.W.fnOf x qual (defArgs st) (defBody st) (defScope st) .none kV doc pm an (.ref c) ct), osl⟩) (cd : PySem.W.codeIn K (.ref c) qual = true) (k : PySem.W.keepIn K (.ref f) = true) : FunAtC K mg x qual st c :=
  ⟨f, oc, od, kV, doc, pm, an, ct, osl, PySem.W.mg_of X G a, l, cd, k⟩
/-- an own error with one field -/
theorem errC_mk {x f qual : Str} {C fI N : Addr} {st : Stmt} {nm q : Str} {bs bm : List Value} {sn : List Str} {sub : List Value} {ab : Bool} {col : Option Bool} {dd : Option Addr} {k0 k1 k2 k3 k5 : Option Value}
    {od an : Option Addr} {sl : Array (Option Value)} {oc kV dc pm cd ct : Value} (X : K.In h) (G : h.Ns mainGlobals mg)
    (aC : PySem.W.nsIn K mainGlobals x = some (some (.ref C)))
    (xL : K.lookup C = some (excClassObj nm q C N bs bm true sn sub ab col dd k0 k1 k2 k3 k5 "ValueError.__new__")) (rf : PySem.HandSPX.refsVE bm = true)
    (sa : PySem.W.findIn K (.ref C) "__setattr__" = some (some (.builtin "object.__setattr__"))) (ga : PySem.W.findIn K (.ref C) "__getattribute__" = some (some (.builtin "BaseException.__getattribute__"))) (gg : PySem.W.findIn K (.ref C) "__getattr__" = some none) (nb : PySem.W.findIn K (.ref C) f = some none)
    (kC : PySem.W.keepIn K (.ref C) = true) (eC : PySem.W.subIn K (.ref C) (.type "BaseException") = some true) (tC : PySem.W.typeIn K (.ref C) = some (.type "type")) (hC : PySem.W.hasDictIn K C = true)
    (a1 : PySem.W.findIn K (.ref C) "__init__" = some (some (.ref fI))) (t1 : PySem.W.typeIn K (.ref fI) = some (.type "function"))
    (l : K.lookup fI = some ⟨oc, od, .func (PySem.W.fnOf "__init__" qual (defArgs st) (defBody st) (defScope st) .none kV dc pm an cd ct), sl⟩) (c : PySem.W.codeIn K cd qual = true) (k : PySem.W.keepIn K (.ref fI) = true) : ErrC K mg x f C st qual :=
  ⟨⟨⟨_, _, _, _, _, _, _, _, _, _, _, _, _, _, _, xL, rf⟩, sa, eC, tC, kC⟩, ⟨ga, gg, eC, hC⟩, PySem.W.mg_of X G aC, nb, fI, _, a1, t1, fun_mk l c k⟩
/-- is an error of the class at A what «except D» names -/
theorem exm_mk {A D : Addr} {b : Bool} (h1 : PySem.W.subIn K (.ref D) (.type "BaseException") = some true) (h2 : PySem.W.isClsIn K D = true) (h3 : PySem.W.typeIn K (.ref D) = some (.type "type")) (h4 : PySem.W.subIn K (.ref A) (.ref D) = some b) :
    PySem.W.exmOne K (.ref A) (.ref D) = some b := by
  have e1 : (PySem.W.subIn K (.ref D) (.type "BaseException") == some true) = true := by rw [h1] <;> rfl
  have e2 : ((PySem.W.clsIn K D).isSome && PySem.W.typeIn K (.ref D) == some (.type "type")) = true := by
    have h2' : (PySem.W.clsIn K D).isSome = true := h2
    rw [h2', h3] <;> rfl
  show (if (PySem.W.subIn K (.ref D) (.type "BaseException") == some true) = true then (if ((PySem.W.clsIn K D).isSome && PySem.W.typeIn K (.ref D) == some (.type "type")) = true then PySem.W.subIn K (.ref A) (.ref D) else none) else none) = some b
  rw [if_pos e1, if_pos e2]
  exact h4
end
end L2
namespace N
open PySem L2
def three (a b c : Addr) : Nat → Addr
  | 0 => a
  | 1 => b
  | _ => c
section
variable {P : Program} {w : World} {K : PySem.W.Frag} {mg : Str → Option Value} {base : Heap} {C : Addr} {Cs : Nat → Addr}
theorem all_ok {f : Addr} {fd : FuncData} {c Pt : Addr} (B : Blts mg) (G : Globs mg) (T : KindT K mg C Cs) (TB : LamX.TabB base mg c Pt)
    (hx : ∀ i j, i < 3 → j < 3 → PySem.W.exmOne K (.ref (Cs i)) (.ref (Cs j)) = some (decide (i = j)))
    (hne : PySem.W.findIn K (.ref C) "__ne__" = some (some (.builtin "object.__ne__")))
    (nN : PySem.W.subIn K (.type "NoneType") (.ref C) = some false) (nS : PySem.W.subIn K (.type "str") (.ref C) = some false) (nT : PySem.W.subIn K (.type "tuple") (.ref C) = some false) (nL : PySem.W.subIn K (.type "list") (.ref C) = some false) (nI : PySem.W.subIn K (.type "int") (.ref C) = some false)
    (I : InitAt K mg "Kind" C "Kind.__init__" s_Kind___init__ [] [("back", .non), ("mirror", .non), ("yarn", .int 1)])
    (F1 : FunAt K mg "is_integer" "is_integer" s_is_integer) (F2 : FunAt K mg "is_count" "is_count" s_is_count) (F3 : FunAt K mg "is_count_to" "is_count_to" s_is_count_to) (F4 : FunAt K mg "is_name" "is_name" s_is_name)
    (F5 : FunAt K mg "_numbers_and_names" "_numbers_and_names" s__numbers_and_names) (F6 : FunAt K mg "_law_pot" "_law_pot" s__law_pot) (F7 : FunAt K mg "_law_draw" "_law_draw" s__law_draw) (F8 : FunAt K mg "_law_pick" "_law_pick" s__law_pick)
    (F9 : FunAt K mg "_law_label" "_law_label" s__law_label) (F10 : FunAt K mg "_law_fields" "_law_fields" s__law_fields) (F11 : FunAt K mg "_law_kind" "_law_kind" s__law_kind) (F12 : FunAt K mg "_law_text" "_law_text" s__law_text)
    (F13 : FunAt K mg "_law_is_kind" "_law_is_kind" s__law_is_kind) (F14 : FunAt K mg "_law_others" "_law_others" s__law_others) (F15 : FunAt K mg "_law_heard" "_law_heard" s__law_heard) (F16 : FunAt K mg "_law_wrong" "_law_wrong" s__law_wrong)
    (F17 : FunAt K mg "_law_right" "_law_right" s__law_right) (F18 : FunAtC K mg "_law_refusals_right" "_law_refusals_right" s__law_refusals_right c)
    (P1 : PropAt K C "name" "Kind.name" s_Kind_name) (P2 : PropAt K C "takes" "Kind.takes" s_Kind_takes) (P3 : PropAt K C "makes" "Kind.makes" s_Kind_makes) (P4 : PropAt K C "back" "Kind.back" s_Kind_back) (P5 : PropAt K C "mirror" "Kind.mirror" s_Kind_mirror) (P6 : PropAt K C "yarn" "Kind.yarn" s_Kind_yarn)
    (M1 : MethAt K C "__eq__" "Kind.__eq__" s_Kind___eq__) (M2 : MethAt K C "__repr__" "Kind.__repr__" s_Kind___repr__)
    (F : Fun K "law" "law" s_law f fd) : FnG P w K mg base CX0 11 f fd ["_law_script"] (spLaw K [(Pt, lamName)]) := by
  have hi := h_is_integer (P := P) (w := w) (base := base) B F1
  have hc := h_is_count F2 hi
  have hct := h_is_count_to F3 hc
  have hn := h_is_name (P := P) (w := w) (base := base) B G F4
  have k3 := hKind3 B G T I hn hct
  have k6 := hKind6 B G T I hn hct
  have kD := hKindD B G T I hn hct
  have p1 := p_name (P := P) (w := w) (base := base) T P1
  have p2 := p_takes (P := P) (w := w) (base := base) T P2
  have p3 := p_makes (P := P) (w := w) (base := base) T P3
  have p4 := p_back (P := P) (w := w) (base := base) T P4
  have p5 := p_mirror (P := P) (w := w) (base := base) T P5
  have p6 := p_yarn (P := P) (w := w) (base := base) T P6
  have hrow := h_rows T F5 p1 p2 p3 p4 p5 p6
  have mE := m_eqK B T M1 hrow
  have mR := m_reprK (P := P) (w := w) (base := base) B T M2
  have hd := h_law_draw (P := P) (w := w) (base := base) B F7
  have hk := h_law_pick (P := P) (w := w) (base := base) (K := K) B F8 hd
  have hkS := h_law_pickS (P := P) (w := w) (base := base) (K := K) B F8 hd
  have hlab := h_law_label B F9 hk hkS
  have hfi := h_law_fields B F10 hd hk hlab
  have hki := h_law_kind F11 k3
  have htx := h_law_text (P := P) (w := w) (base := base) B F12
  have his := h_law_is_kind B T F13 p1 p2 p3 p4 p5 p6 mR htx
  have hot := h_law_others B F14 hk
  have hwr := h_law_wrong F16 hk
  have hre := h_law_refusals B T F18 F15 TB hx hd hwr hki
  have hri := h_law_right B T F17 hne nN nS nT nL nI mE mR k6 kD hfi hki his hot hre
  exact ok_law B F hri (h_law_pot B F6)
end
/-- with the law's own def, as the end wants it -/
theorem all_mk {l : PySem.W.OpenLaw} {w : World} {K : PySem.W.Frag} {h : Heap} {mg : Str → Option Value} {fa f C c Pt a0 a1 a2 : Addr} (X : K.In h) (G : h.Ns mainGlobals mg) (hfa : mg "law" = some (.ref fa))
    (tab : h.get? Pt = some emptyTab) (loose : K.lookup Pt = none) (code : PySem.W.codeHdIn K c Pt = true)
    {od an : Option Addr} {sl : Array (Option Value)} {oc kV dc pm cd ct : Value}
    (a : PySem.W.nsIn K mainGlobals "law" = some (some (.ref f))) (lk : K.lookup f = some ⟨oc, od, .func (PySem.W.fnOf "law" "law" (defArgs s_law) (defBody s_law) (defScope s_law) .none kV dc pm an cd ct), sl⟩) (co : PySem.W.codeIn K cd "law" = true) (k : PySem.W.keepIn K (.ref f) = true)
    (B : Blts mg) (Gl : Globs mg) (own : OwnC K C) (n0 : NoAttr K C "_name") (n1 : NoAttr K C "_takes") (n2 : NoAttr K C "_makes") (n3 : NoAttr K C "_back") (n4 : NoAttr K C "_mirror") (n5 : NoAttr K C "_yarn") (gK : mg "Kind" = some (.ref C))
    (E0 : ErrC K mg "InvalidName" "value" a0 s_InvalidName___init__ "InvalidName.__init__") (E1 : ErrC K mg "InvalidNumber" "value" a1 s_InvalidNumber___init__ "InvalidNumber.__init__") (E2 : ErrC K mg "InvalidKind" "value" a2 s_InvalidKind___init__ "InvalidKind.__init__")
    (x00 : PySem.W.exmOne K (.ref a0) (.ref a0) = some true) (x01 : PySem.W.exmOne K (.ref a0) (.ref a1) = some false) (x02 : PySem.W.exmOne K (.ref a0) (.ref a2) = some false)
    (x10 : PySem.W.exmOne K (.ref a1) (.ref a0) = some false) (x11 : PySem.W.exmOne K (.ref a1) (.ref a1) = some true) (x12 : PySem.W.exmOne K (.ref a1) (.ref a2) = some false)
    (x20 : PySem.W.exmOne K (.ref a2) (.ref a0) = some false) (x21 : PySem.W.exmOne K (.ref a2) (.ref a1) = some false) (x22 : PySem.W.exmOne K (.ref a2) (.ref a2) = some true)
    (hne : PySem.W.findIn K (.ref C) "__ne__" = some (some (.builtin "object.__ne__")))
    (nN : PySem.W.subIn K (.type "NoneType") (.ref C) = some false) (nS : PySem.W.subIn K (.type "str") (.ref C) = some false) (nT : PySem.W.subIn K (.type "tuple") (.ref C) = some false) (nL : PySem.W.subIn K (.type "list") (.ref C) = some false) (nI : PySem.W.subIn K (.type "int") (.ref C) = some false)
    (I : InitAt K mg "Kind" C "Kind.__init__" s_Kind___init__ [] [("back", .non), ("mirror", .non), ("yarn", .int 1)])
    (F1 : FunAt K mg "is_integer" "is_integer" s_is_integer) (F2 : FunAt K mg "is_count" "is_count" s_is_count) (F3 : FunAt K mg "is_count_to" "is_count_to" s_is_count_to) (F4 : FunAt K mg "is_name" "is_name" s_is_name)
    (F5 : FunAt K mg "_numbers_and_names" "_numbers_and_names" s__numbers_and_names) (F6 : FunAt K mg "_law_pot" "_law_pot" s__law_pot) (F7 : FunAt K mg "_law_draw" "_law_draw" s__law_draw) (F8 : FunAt K mg "_law_pick" "_law_pick" s__law_pick)
    (F9 : FunAt K mg "_law_label" "_law_label" s__law_label) (F10 : FunAt K mg "_law_fields" "_law_fields" s__law_fields) (F11 : FunAt K mg "_law_kind" "_law_kind" s__law_kind) (F12 : FunAt K mg "_law_text" "_law_text" s__law_text)
    (F13 : FunAt K mg "_law_is_kind" "_law_is_kind" s__law_is_kind) (F14 : FunAt K mg "_law_others" "_law_others" s__law_others) (F15 : FunAt K mg "_law_heard" "_law_heard" s__law_heard) (F16 : FunAt K mg "_law_wrong" "_law_wrong" s__law_wrong)
    (F17 : FunAt K mg "_law_right" "_law_right" s__law_right) (F18 : FunAtC K mg "_law_refusals_right" "_law_refusals_right" s__law_refusals_right c)
    (P1 : PropAt K C "name" "Kind.name" s_Kind_name) (P2 : PropAt K C "takes" "Kind.takes" s_Kind_takes) (P3 : PropAt K C "makes" "Kind.makes" s_Kind_makes) (P4 : PropAt K C "back" "Kind.back" s_Kind_back) (P5 : PropAt K C "mirror" "Kind.mirror" s_Kind_mirror) (P6 : PropAt K C "yarn" "Kind.yarn" s_Kind_yarn)
    (M1 : MethAt K C "__eq__" "Kind.__eq__" s_Kind___eq__) (M2 : MethAt K C "__repr__" "Kind.__repr__" s_Kind___repr__) :
    LawGT l w K 11 63 "_law_script" mg fa h := by
  have e := hfa.symm.trans (PySem.W.mg_of X G a)
  cases e
  have T : KindT K mg C (three a0 a1 a2) := ⟨own, n0, n1, n2, n3, n4, n5, gK, E0, E1, E2⟩
  have hx : ∀ i j, i < 3 → j < 3 → PySem.W.exmOne K (.ref (three a0 a1 a2 i)) (.ref (three a0 a1 a2 j)) = some (decide (i = j)) := fun i j hi hj => by
    match i, hi, j, hj with
    | 0, _, 0, _ => exact x00
    | 0, _, 1, _ => exact x01
    | 0, _, 2, _ => exact x02
    | 1, _, 0, _ => exact x10
    | 1, _, 1, _ => exact x11
    | 1, _, 2, _ => exact x12
    | 2, _, 0, _ => exact x20
    | 2, _, 1, _ => exact x21
    | 2, _, 2, _ => exact x22
  have one : ∀ {p : Addr × Addr}, p ∈ [(c, Pt)] → p = (c, Pt) := fun h => List.mem_singleton.mp h
  refine ⟨PySem.W.fnOf "law" "law" (defArgs s_law) (defBody s_law) (defScope s_law) .none kV dc pm an cd ct, [(c, Pt)], spLaw K [(Pt, lamName)], fun p hp => ?_, fun p hp => ?_, fun p hp => ?_, fun s v => .of_eq rfl, fun H aa ns hl h1 h2 => ?_, fun base _ _ tb => ?_⟩
  · rw [one hp]; exact tab
  · rw [one hp]; exact loose
  · rw [one hp]; exact PySem.W.codeHd_of_K X code
  · refine ⟨aa, ns, rfl, h2, hl, fun p hp => ?_, fun _ => rfl⟩
    rw [List.mem_singleton.mp hp]
    exact LamX.TabS.nil (h1 (c, Pt) (List.mem_singleton.mpr rfl))
  · exact all_ok B Gl T (tb (c, Pt) (List.mem_singleton.mpr rfl)) hx hne nN nS nT nL nI I F1 F2 F3 F4 F5 F6 F7 F8 F9 F10 F11 F12 F13 F14 F15 F16 F17 F18 P1 P2 P3 P4 P5 P6 M1 M2 (fun_mk (st := s_law) lk co k)
end N

open PySem PySem.W PyProof.Rows
set_option maxRecDepth 100000 in
set_option maxHeartbeats 0 in
open_top hd for PySem.Challenge.rw_stitchsizes_k15_kinds_by_their_fields

open PySem PySem.W PyProof.Rows
theorem L2.km_none {K : Params → PySem.W.Frag} {as : List Addr} {e : ∀ P, as = (K P).map (·.1)} {ts : List Addr} {w : World} {h : Heap} (_ : (PySem.W.kmHook K as e ts).says w h) {a : Addr} (n : as.contains a = false) : (K w.params).lookup a = none := by
  have q : ∀ l : List (Addr × Obj), (l.map (·.1)).contains a = false → l.lookup a = none := by
    intro l
    induction l with
    | nil => intro _; rfl
    | cons p r ih =>
      intro z
      obtain ⟨b, o⟩ := p
      simp only [List.map_cons, List.contains_cons, Bool.or_eq_false_iff] at z
      simp only [List.lookup, z.1]
      exact ih z.2
  exact q _ (e w.params ▸ n)
theorem L2.codeHd_mk {K : PySem.W.Frag} {c P : Addr} {od : Option Addr} {vs : Array Value} {sl : Array (Option Value)} (l : K.lookup c = some ⟨.type "code", od, .fields vs, sl⟩) (h11 : (vs[11]? : Option Value) = some (.ref P)) (h18 : ∃ a b, vs.getD 18 .none = .str a b)
    (h7 : ∃ a b, vs.getD 7 .none = .int a b) (h9 : ∃ a, vs.getD 9 .none = .bool a) (h10 : ∃ a b, vs.getD 10 .none = .int a b) (hne : (c != P) = true) : PySem.W.codeHdIn K c P = true := by
  obtain ⟨_, _, e18⟩ := h18
  obtain ⟨_, _, e7⟩ := h7
  obtain ⟨_, e9⟩ := h9
  obtain ⟨_, _, e10⟩ := h10
  unfold PySem.W.codeHdIn
  simp [l, h11, e18, e7, e9, e10]
  simpa using hne
set_option maxRecDepth 100000 in
set_option maxHeartbeats 0 in
theorem PySem.Challenge.cw_stitchsizes_k15_kinds_by_their_fields_holds : PySem.Challenge.rw_stitchsizes_k15_kinds_by_their_fields.Holds := by
  refine hd ?hc
  k_fill
  refine L2.walk_ofGT (l := PySem.Challenge.rw_stitchsizes_k15_kinds_by_their_fields) (n := 63) (k := 11) (x := "_law_script") rfl (by decide) rfl ⟨rfl, by decide, by decide⟩ (fun w h Y => PySem.W.km_in_of Y) ?F
  case F =>
    intro w mg fa h Y KX G hmg
    have tab := PySem.W.km_tabs_of Y 285 (List.mem_singleton.mpr rfl)
    refine' N.all_mk (Pt := 285) KX G hmg tab ?loose ?code ?a ?lk ?c ?k ?B ?Gl ?own ?n0 ?n1 ?n2 ?n3 ?n4 ?n5 ?gK ?E0 ?E1 ?E2 ?x00 ?x01 ?x02 ?x10 ?x11 ?x12 ?x20 ?x21 ?x22 ?hne ?nN ?nS ?nT ?nL ?nI ?I ?F1 ?F2 ?F3 ?F4 ?F5 ?F6 ?F7 ?F8 ?F9 ?F10 ?F11 ?F12 ?F13 ?F14 ?F15 ?F16 ?F17 ?F18 ?P1 ?P2 ?P3 ?P4 ?P5 ?P6 ?M1 ?M2
    (case a => k_is); (case lk => k_is); (case c => k_is); (case k => k_is)
    (case B => exact ⟨PySem.W.mg_none_of KX G (by k_is), PySem.W.mg_none_of KX G (by k_is), PySem.W.mg_none_of KX G (by k_is), PySem.W.mg_none_of KX G (by k_is), PySem.W.mg_none_of KX G (by k_is), PySem.W.mg_none_of KX G (by k_is), PySem.W.mg_none_of KX G (by k_is), PySem.W.mg_none_of KX G (by k_is), PySem.W.mg_none_of KX G (by k_is), PySem.W.mg_none_of KX G (by k_is), PySem.W.mg_none_of KX G (by k_is), PySem.W.mg_none_of KX G (by k_is), PySem.W.mg_none_of KX G (by k_is), PySem.W.mg_none_of KX G (by k_is), PySem.W.mg_none_of KX G (by k_is), PySem.W.mg_none_of KX G (by k_is), PySem.W.mg_none_of KX G (by k_is), PySem.W.mg_none_of KX G (by k_is), PySem.W.mg_none_of KX G (by k_is), PySem.W.mg_none_of KX G (by k_is)⟩)
    (case Gl => exact ⟨⟨_, PySem.W.mg_of KX G (by k_is)⟩, ⟨_, PySem.W.mg_of KX G (by k_is)⟩, ⟨_, PySem.W.mg_of KX G (by k_is)⟩, ⟨_, PySem.W.mg_of KX G (by k_is)⟩⟩)
    (case gK => refine' PySem.W.mg_of KX G ?g; (case g => k_is))
    (case own => refine' L2.ownC_mk ?t1 ?t2 ?t3 ?t4 ?t5 ?t6 ?t7 ?t8 ?t9 ?t10; (case t1 => k_is); (case t2 => k_is); (case t3 => k_is); (case t4 => k_is); (case t5 => k_is); (case t6 => k_is); (case t7 => k_is); (case t8 => k_is); (case t9 => k_is); (case t10 => k_is))
    (case n0 => unfold L2.NoAttr; k_is)
    (case n1 => unfold L2.NoAttr; k_is)
    (case n2 => unfold L2.NoAttr; k_is)
    (case n3 => unfold L2.NoAttr; k_is)
    (case n4 => unfold L2.NoAttr; k_is)
    (case n5 => unfold L2.NoAttr; k_is)
    (case E0 => refine' L2.errC_mk KX G ?aC ?xL ?rf ?sa ?ga ?gg ?nb ?kC ?eC ?tC ?hC ?a1 ?t1 ?l ?c ?k; (case aC => k_is); (case xL => k_is); (case rf => decide +kernel); (case sa => k_is); (case ga => k_is); (case gg => k_is); (case nb => k_is); (case kC => k_is); (case eC => k_is); (case tC => k_is); (case hC => k_is); (case a1 => k_is); (case t1 => k_is); (case l => k_is); (case c => k_is); (case k => k_is))
    (case E1 => refine' L2.errC_mk KX G ?aC ?xL ?rf ?sa ?ga ?gg ?nb ?kC ?eC ?tC ?hC ?a1 ?t1 ?l ?c ?k; (case aC => k_is); (case xL => k_is); (case rf => decide +kernel); (case sa => k_is); (case ga => k_is); (case gg => k_is); (case nb => k_is); (case kC => k_is); (case eC => k_is); (case tC => k_is); (case hC => k_is); (case a1 => k_is); (case t1 => k_is); (case l => k_is); (case c => k_is); (case k => k_is))
    (case E2 => refine' L2.errC_mk KX G ?aC ?xL ?rf ?sa ?ga ?gg ?nb ?kC ?eC ?tC ?hC ?a1 ?t1 ?l ?c ?k; (case aC => k_is); (case xL => k_is); (case rf => decide +kernel); (case sa => k_is); (case ga => k_is); (case gg => k_is); (case nb => k_is); (case kC => k_is); (case eC => k_is); (case tC => k_is); (case hC => k_is); (case a1 => k_is); (case t1 => k_is); (case l => k_is); (case c => k_is); (case k => k_is))
    (case x00 => refine' L2.exm_mk ?h1 ?h2 ?h3 ?h4; (case h1 => k_is); (case h2 => k_is); (case h3 => k_is); (case h4 => first | rfl | k_is))
    (case x01 => refine' L2.exm_mk ?h1 ?h2 ?h3 ?h4; (case h1 => k_is); (case h2 => k_is); (case h3 => k_is); (case h4 => first | rfl | k_is))
    (case x02 => refine' L2.exm_mk ?h1 ?h2 ?h3 ?h4; (case h1 => k_is); (case h2 => k_is); (case h3 => k_is); (case h4 => first | rfl | k_is))
    (case x10 => refine' L2.exm_mk ?h1 ?h2 ?h3 ?h4; (case h1 => k_is); (case h2 => k_is); (case h3 => k_is); (case h4 => first | rfl | k_is))
    (case x11 => refine' L2.exm_mk ?h1 ?h2 ?h3 ?h4; (case h1 => k_is); (case h2 => k_is); (case h3 => k_is); (case h4 => first | rfl | k_is))
    (case x12 => refine' L2.exm_mk ?h1 ?h2 ?h3 ?h4; (case h1 => k_is); (case h2 => k_is); (case h3 => k_is); (case h4 => first | rfl | k_is))
    (case x20 => refine' L2.exm_mk ?h1 ?h2 ?h3 ?h4; (case h1 => k_is); (case h2 => k_is); (case h3 => k_is); (case h4 => first | rfl | k_is))
    (case x21 => refine' L2.exm_mk ?h1 ?h2 ?h3 ?h4; (case h1 => k_is); (case h2 => k_is); (case h3 => k_is); (case h4 => first | rfl | k_is))
    (case x22 => refine' L2.exm_mk ?h1 ?h2 ?h3 ?h4; (case h1 => k_is); (case h2 => k_is); (case h3 => k_is); (case h4 => first | rfl | k_is))
    (case hne => k_is); (case nN => k_is); (case nS => k_is); (case nT => k_is); (case nL => k_is); (case nI => k_is)
    (case I =>
      refine' L2.initAt_mk KX G ?i1 ?i2 ?i3 ?i4 ?i5 (L2.funK_mk ?i6 ?i7 ?i8 ?i9)
      (case i1 => k_is); (case i2 => k_is); (case i3 => k_is); (case i4 => k_is); (case i5 => k_is); (case i6 => k_is); (case i7 => k_is); (case i8 => k_is)
      (case i9 =>
        intro q hq
        simp only [List.mem_cons, List.mem_nil_iff, or_false] at hq
        rcases hq with rfl | rfl | rfl
        · exact ⟨.none, by k_is, rfl⟩
        · exact ⟨.none, by k_is, rfl⟩
        · exact ⟨_, by k_is, ⟨_, rfl⟩⟩))
    (case F1 => refine' L2.funAt_mk KX G ?a ?l ?c ?k; (case a => k_is); (case l => k_is); (case c => k_is); (case k => k_is))
    (case F2 => refine' L2.funAt_mk KX G ?a ?l ?c ?k; (case a => k_is); (case l => k_is); (case c => k_is); (case k => k_is))
    (case F3 => refine' L2.funAt_mk KX G ?a ?l ?c ?k; (case a => k_is); (case l => k_is); (case c => k_is); (case k => k_is))
    (case F4 => refine' L2.funAt_mk KX G ?a ?l ?c ?k; (case a => k_is); (case l => k_is); (case c => k_is); (case k => k_is))
    (case F5 => refine' L2.funAt_mk KX G ?a ?l ?c ?k; (case a => k_is); (case l => k_is); (case c => k_is); (case k => k_is))
    (case F6 => refine' L2.funAt_mk KX G ?a ?l ?c ?k; (case a => k_is); (case l => k_is); (case c => k_is); (case k => k_is))
    (case F7 => refine' L2.funAt_mk KX G ?a ?l ?c ?k; (case a => k_is); (case l => k_is); (case c => k_is); (case k => k_is))
    (case F8 => refine' L2.funAt_mk KX G ?a ?l ?c ?k; (case a => k_is); (case l => k_is); (case c => k_is); (case k => k_is))
    (case F9 => refine' L2.funAt_mk KX G ?a ?l ?c ?k; (case a => k_is); (case l => k_is); (case c => k_is); (case k => k_is))
    (case F10 => refine' L2.funAt_mk KX G ?a ?l ?c ?k; (case a => k_is); (case l => k_is); (case c => k_is); (case k => k_is))
    (case F11 => refine' L2.funAt_mk KX G ?a ?l ?c ?k; (case a => k_is); (case l => k_is); (case c => k_is); (case k => k_is))
    (case F12 => refine' L2.funAt_mk KX G ?a ?l ?c ?k; (case a => k_is); (case l => k_is); (case c => k_is); (case k => k_is))
    (case F13 => refine' L2.funAt_mk KX G ?a ?l ?c ?k; (case a => k_is); (case l => k_is); (case c => k_is); (case k => k_is))
    (case F14 => refine' L2.funAt_mk KX G ?a ?l ?c ?k; (case a => k_is); (case l => k_is); (case c => k_is); (case k => k_is))
    (case F15 => refine' L2.funAt_mk KX G ?a ?l ?c ?k; (case a => k_is); (case l => k_is); (case c => k_is); (case k => k_is))
    (case F16 => refine' L2.funAt_mk KX G ?a ?l ?c ?k; (case a => k_is); (case l => k_is); (case c => k_is); (case k => k_is))
    (case F17 => refine' L2.funAt_mk KX G ?a ?l ?c ?k; (case a => k_is); (case l => k_is); (case c => k_is); (case k => k_is))
    (case F18 => refine' L2.funAtC_mk KX G ?a ?l ?c ?k; (case a => k_is); (case l => k_is); (case c => k_is); (case k => k_is))
    (case P1 => refine' L2.propAt_mk ?a ?b ?t ?r ?l ?c ?k; (case a => k_is); (case b => k_is); (case t => k_is); (case r => k_is); (case l => k_is); (case c => k_is); (case k => k_is))
    (case P2 => refine' L2.propAt_mk ?a ?b ?t ?r ?l ?c ?k; (case a => k_is); (case b => k_is); (case t => k_is); (case r => k_is); (case l => k_is); (case c => k_is); (case k => k_is))
    (case P3 => refine' L2.propAt_mk ?a ?b ?t ?r ?l ?c ?k; (case a => k_is); (case b => k_is); (case t => k_is); (case r => k_is); (case l => k_is); (case c => k_is); (case k => k_is))
    (case P4 => refine' L2.propAt_mk ?a ?b ?t ?r ?l ?c ?k; (case a => k_is); (case b => k_is); (case t => k_is); (case r => k_is); (case l => k_is); (case c => k_is); (case k => k_is))
    (case P5 => refine' L2.propAt_mk ?a ?b ?t ?r ?l ?c ?k; (case a => k_is); (case b => k_is); (case t => k_is); (case r => k_is); (case l => k_is); (case c => k_is); (case k => k_is))
    (case P6 => refine' L2.propAt_mk ?a ?b ?t ?r ?l ?c ?k; (case a => k_is); (case b => k_is); (case t => k_is); (case r => k_is); (case l => k_is); (case c => k_is); (case k => k_is))
    (case M1 => refine' L2.methAt_mk ?a ?i ?l ?c ?k; (case a => k_is); (case i => k_is); (case l => k_is); (case c => k_is); (case k => k_is))
    (case M2 => refine' L2.methAt_mk ?a ?i ?l ?c ?k; (case a => k_is); (case i => k_is); (case l => k_is); (case c => k_is); (case k => k_is))
    (case code => refine' L2.codeHd_mk ?l ?a ?b ?c ?d ?e ?f; (case l => k_is); (case a => rfl); (case b => exact ⟨_, _, rfl⟩); (case c => exact ⟨_, _, rfl⟩); (case d => exact ⟨_, rfl⟩); (case e => exact ⟨_, _, rfl⟩); (case f => decide))
    (case loose => exact L2.km_none Y (by decide +kernel))

