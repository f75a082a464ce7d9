import PyProof.Rows.All
import Wide.All
import OpenK.AllK
import Wide.FinOn
import KE.KOpsOwn
import KE.KCallOwn
import PyProof.InstNe
import HandS.ForMost
import HandS.IsInst
import HandS.Property
import HandS.FStr
import HandS.WideBits
import HandS.Zip
import HandS.TupAny
import HandS.RaiseMore
import HandS.Defaults
import HandS.SlotsOwn
import KE.KFmtOwn
import PyProof.FactsAll.object_2
import HandS.Walk
import HandS.NoneIn
import HandS.Style
import PySem.Challenge.RW_stitchsizes_k31_whole_forms
set_option Elab.async false
set_option linter.all false
set_option maxRecDepth 100000
set_option maxHeartbeats 4000000
namespace L2
open PySem PySem.Spec PyProof.Rows
section
variable {X : Cx} {CX : CXT} {pins : List (Addr × Obj)} {σ : St} {H : Hp} {s : Shared} {a C dx g : Addr} {fs : List (Str × V)} {n : Nat} {sp : Sp} {E : XK} {fd : FuncData} {ps : List Str}

/-- a def of a class runs, called by an operation of the machine's own at A -/
theorem run_under {A : Around} {Q : VK} {us : List Value} {ws : List V} (F : FnOk X.prog X.w X.K X.mg X.base CX n g fd ps sp) (hb : Binds X.K fd ps []) (hr : Room n A)
    (e0 : Env0 X.prog X.w X.K X.mg X.base A X.stack s H) (hx : Passes CX X E) (I : Inv X pins σ H s) (r : Vals ws us) (h : sp ws H Q E) :
    wpAny (model X.prog X.w) A (call (.ref g) us) (EP X pins σ Q) X.xe s := by
  have hl : (us ++ []).length = ps.length := by
    rw [List.append_nil, ← F.len _ _ _ _ h, r.length]
  refine wpAny_call (codeAny_mono (F.run A X.stack s H ⟨us, []⟩ (us ++ []) ws Q E hr e0 (hb _ us I.kIn hl) (by rw [List.append_nil]; exact r) h) fun r' s' hq => ?_)
  cases r' with
  | error e => exact hx pins σ H s e s' I hq
  | ok fl =>
    cases fl with
    | ret u =>
      first
        | exact I.after hq
        | exact ⟨rfl, I.after hq⟩
    | next => exact False.elim hq
    | brk => exact False.elim hq
    | cont => exact False.elim hq

/-- what a dunder def hands back is no NotImplemented -/
theorem cmpback' {P : Value → Shared → Prop} {z : V} {v : Value} {s' : Shared} (r : RelV z v) (h : P v s') : PySem.W.CmpBack P v s' := SlX.cmpback r h

/-- a value's type, looked up -/
theorem looks_ty {x : V} {u t : Value} (I : Inv X pins σ H s) (rx : RelV x u) (ty : TyX X.K H x t) : PySem.W.Looks (model X.prog X.w) s.heap (typeOf u) t := by
  obtain ⟨P, k, hp, _⟩ := kit_of I rx ty
  exact k.ty _ _ I.kIn hp

/-- x op y, x an instance of the class at C whose def for op is at g -/
def rCmpOwn (K : PySem.W.Frag) (C : Addr) (sp : Sp) (E : XK) : R2 := fun x y H Q => ∃ a dx fs t, x = .ref a ∧ H a = some (.ins C dx fs) ∧ TyX K H y t ∧ PySem.W.notFirst K C t = true ∧ sp [x, y] H Q E
theorem op_cmpOwn {op : CmpOp} (hop : ∀ a b, compareOp op a b = richCompare op a b) (hs : PySem.W.findIn X.K (.ref C) (cmpInfo op).2.1 = some (some (.ref g))) (hf : PySem.W.isFn X.K (.ref g) = true)
    (F : FnOk X.prog X.w X.K X.mg X.base CX n g fd ps sp) (hb : Binds X.K fd ps []) (hr : Room n X.A) (hx : Passes CX X E) : OpR X (compareOp op) (rCmpOwn X.K C sp E) := by
  intro pins s σ H x y v u Q I rx ry h
  obtain ⟨a, dx, fs, t, rfl, ha, ht, hn, q⟩ := h
  cases (show v = Value.ref a from rx)
  obtain ⟨mA, O, _, _, _, _⟩ := ins_get I.hok ha
  obtain ⟨od, J, _⟩ := O.look
  obtain ⟨m, hF⟩ := I.fr
  rw [hop]
  refine PySem.W.cmp_K (op := op) (tb := t) hr.units0 hF I.ok.mod.kin J (looks_ty I ry ht) hn hs hf ?_
  refine wpAny_mono (run_fn (us := [.ref a, u]) (vs := [.ref a, y]) (dvs := []) F hr hb .nil hx I (.cons rfl (.cons ry .nil)) (by simpa using q)) (fun w s' z => ?_) fun _ _ x => x
  obtain ⟨z', H', I', rz, qz⟩ := z
  exact cmpback' rz ⟨z', H', I', rz, qz⟩
theorem op_eqOwn (hs : PySem.W.findIn X.K (.ref C) "__eq__" = some (some (.ref g))) (hf : PySem.W.isFn X.K (.ref g) = true)
    (F : FnOk X.prog X.w X.K X.mg X.base CX n g fd ps sp) (hb : Binds X.K fd ps []) (hr : Room n X.A) (hx : Passes CX X E) : OpR X (compareOp .Eq) (rCmpOwn X.K C sp E) :=
  op_cmpOwn (fun _ _ => rfl) hs hf F hb hr hx

/-- -x, x an instance -/
def rUnOwn (C : Addr) (sp : Sp) (E : XK) : V → Hp → VK → Prop := fun x H Q => ∃ a dx fs, x = .ref a ∧ H a = some (.ins C dx fs) ∧ sp [x] H Q E
theorem un_negOwn (hs : PySem.W.findIn X.K (.ref C) "__neg__" = some (some (.ref g))) (hf : PySem.W.isFn X.K (.ref g) = true)
    (F : FnOk X.prog X.w X.K X.mg X.base CX n g fd ps sp) (hb : Binds X.K fd ps []) (hr : Room n X.A) (hx : Passes CX X E) : UnR X (unaryOp .USub) (rUnOwn C sp E) := by
  intro pins s σ H x v Q I rx h
  obtain ⟨a, dx, fs, rfl, ha, q⟩ := h
  cases (show v = Value.ref a from rx)
  obtain ⟨mA, O, _, _, _, _⟩ := ins_get I.hok ha
  obtain ⟨od, J, _⟩ := O.look
  obtain ⟨m, hF⟩ := I.fr
  refine PySem.W.ksp_neg hF I.ok.mod.kin J hs hf ?_
  exact run_fn (us := [.ref a]) (vs := [.ref a]) (dvs := []) F hr hb .nil hx I (.cons rfl .nil) (by simpa using q)

/-- x op y, x an instance of the class at C whose def for op is at g; y an instance of the same class -/
def rBinSame (C : Addr) (sp : Sp) (E : XK) : R2 := fun x y H Q => ∃ a dx fs b dy gs, x = .ref a ∧ y = .ref b ∧ H a = some (.ins C dx fs) ∧ H b = some (.ins C dy gs) ∧ sp [x, y] H Q E
theorem op_binSame {op : Operator} (hc : PySem.W.selfFirst X.K C = true) (hs : PySem.W.findIn X.K (.ref C) (PySem.dunder op.info.2) = some (some (.ref g))) (hf : PySem.W.isFn X.K (.ref g) = true)
    (F : FnOk X.prog X.w X.K X.mg X.base CX n g fd ps sp) (hb : Binds X.K fd ps []) (hr : Room n X.A) (hx : Passes CX X E) : OpR X (binaryOp op) (rBinSame C sp E) := by
  intro pins s σ H x y v u Q I rx ry h
  obtain ⟨a, dx, fs, b, dy, gs, rfl, rfl, ha, hbb, q⟩ := h
  cases (show v = Value.ref a from rx)
  cases (show u = Value.ref b from ry)
  obtain ⟨mA, O, _, _, _, _⟩ := ins_get I.hok ha
  obtain ⟨od, J, _⟩ := O.look
  obtain ⟨mB, O', _, _, _, _⟩ := ins_get I.hok hbb
  obtain ⟨od', J', _⟩ := O'.look
  obtain ⟨m, hF⟩ := I.fr
  refine PySem.W.binop_K (op := op) hF I.ok.mod.kin J J'.type hc hs hf ?_
  refine wpAny_mono (run_fn (us := [.ref a, .ref b]) (vs := [.ref a, .ref b]) (dvs := []) F hr hb .nil hx I (.cons rfl (.cons rfl .nil)) (by simpa using q)) (fun w s' z => ?_) fun _ _ x => x
  obtain ⟨z', H', I', rz, qz⟩ := z
  exact cmpback' rz ⟨z', H', I', rz, qz⟩
/-- x op n, n an int -/
def rBinInt (C : Addr) (sp : Sp) (E : XK) : R2 := fun x y H Q => ∃ a dx fs i, x = .ref a ∧ y = .int i ∧ H a = some (.ins C dx fs) ∧ sp [x, y] H Q E
theorem op_binInt {op : Operator} {fo ro rc : Option Value} (hc : PySem.W.selfFirst X.K C = true) (hs : PySem.W.findIn X.K (.ref C) (PySem.dunder op.info.2) = some (some (.ref g))) (hf : PySem.W.isFn X.K (.ref g) = true)
    (hR : PySem.W.findIn X.K (.ref C) (dunderR op.info.2) = some rc) (hp : rc = none ∨ ∃ g : Addr, rc = some (.ref g))
    (h1 : PySem.W.findIn X.K (.type "int") (PySem.dunder op.info.2) = some fo) (h2 : PySem.W.findIn X.K (.type "int") (dunderR op.info.2) = some ro) (hsub : PySem.W.subIn X.K (.type "int") (.ref C) = some false)
    (F : FnOk X.prog X.w X.K X.mg X.base CX n g fd ps sp) (hb : Binds X.K fd ps []) (hr : Room n X.A) (hx : Passes CX X E) : OpR X (binaryOp op) (rBinInt C sp E) := by
  intro pins s σ H x y v u Q I rx ry h
  obtain ⟨a, dx, fs, i, rfl, rfl, ha, q⟩ := h
  cases (show v = Value.ref a from rx)
  obtain ⟨t, e⟩ := (show ∃ t, u = Value.int i t from ry)
  cases e
  obtain ⟨mA, O, _, _, _, _⟩ := ins_get I.hok ha
  obtain ⟨od, J, _⟩ := O.look
  obtain ⟨m, hF⟩ := I.fr
  refine PySem.W.ksp_binT (op := op) (T := "int") hF I.ok.mod.kin J rfl hc hs hf hR hp h1 h2 hsub ?_
  refine wpAny_mono (run_fn (us := [.ref a, .int i t]) (vs := [.ref a, .int i]) (dvs := []) F hr hb .nil hx I (.cons rfl (.cons ⟨t, rfl⟩ .nil)) (by simpa using q)) (fun w s' z => ?_) fun _ _ x => x
  obtain ⟨z', H', I', rz, qz⟩ := z
  exact cmpback' rz ⟨z', H', I', rz, qz⟩

/-- repr(x), x an instance whose class has its own __repr__ -/
def rReprOwn (C : Addr) (sp : Sp) (E : XK) : List V → Hp → VK → Prop := fun xs H Q => ∃ a dx fs, xs = [V.ref a] ∧ H a = some (.ins C dx fs) ∧ sp [.ref a] H (fun z H' => ∃ y, z = .str y ∧ Q z H') E
theorem strback {P : Value → Shared → Prop} {y : Str} {v : Value} {s' : Shared} (r : RelV (.str y) v) (h : P v s') : PySem.W.StrBack P v s' := by
  obtain ⟨t, e⟩ := (show ∃ t, v = Value.str y t from r)
  cases e
  exact h
theorem call_reprOwn (hs : PySem.W.findIn X.K (.ref C) "__repr__" = some (some (.ref g))) (hf : PySem.W.isFn X.K (.ref g) = true)
    (F : FnOk X.prog X.w X.K X.mg X.base CX n g fd ps sp) (hb : Binds X.K fd ps []) (hr : Room (n + 1) X.A) (hx : Passes CX X E) : CallR X (.builtin "repr") (rReprOwn C sp E) := by
  intro pins s σ H xs us Q I r h
  obtain ⟨a, dx, fs, rfl, ha, q⟩ := h
  obtain ⟨u, rfl, ru⟩ := r.one
  cases (show u = Value.ref a from ru)
  obtain ⟨mA, O, _, _, _, _⟩ := ins_get I.hok ha
  obtain ⟨od, J, _⟩ := O.look
  obtain ⟨m, hF⟩ := I.fr
  refine PySem.W.repr_K hr.in1.units0 hF I.ok.mod.kin J hs hf ?_
  refine wpAny_mono (run_under (us := [.ref a]) (ws := [.ref a]) F hb hr.in1 I.env0.in1 hx I (.cons rfl .nil) q) (fun w s' z => ?_) fun _ _ x => x
  obtain ⟨z', H', I', rz, y, ey, qz⟩ := z
  subst ey
  exact strback rz ⟨.str y, H', I', rz, qz⟩
theorem call_strOwn (hs : PySem.W.findIn X.K (.ref C) "__str__" = some (some (.ref g))) (hf : PySem.W.isFn X.K (.ref g) = true)
    (F : FnOk X.prog X.w X.K X.mg X.base CX n g fd ps sp) (hb : Binds X.K fd ps []) (hr : Room (n + 2) X.A) (hx : Passes CX X E) : CallR X (.type "str") (rReprOwn C sp E) := by
  intro pins s σ H xs us Q I r h
  obtain ⟨a, dx, fs, rfl, ha, q⟩ := h
  obtain ⟨u, rfl, ru⟩ := r.one
  cases (show u = Value.ref a from ru)
  obtain ⟨mA, O, _, _, _, _⟩ := ins_get I.hok ha
  obtain ⟨od, J, _⟩ := O.look
  have hr2 : Room n X.A.in1.in1 := (show Room (n + 1) X.A.in1 from Room.in1 hr).in1
  refine PySem.W.kso_call hr2.units0 I.kIn J hs hf ?_
  refine wpAny_mono (run_under (us := [.ref a]) (ws := [.ref a]) F hb hr2 I.env0.in1.in1 hx I (.cons rfl .nil) q) (fun w s' z => ?_) fun _ _ x => x
  obtain ⟨z', H', I', rz, y, ey, qz⟩ := z
  subst ey
  exact strback rz ⟨.str y, H', I', rz, qz⟩
section
open PySem.W
variable {prog : Program} {w : World} {M : Model} {A : Around} {E : Value → Shared → Prop} {s : Shared} {K : Frag} {x C f : Addr} {ox : Obj} {od : Option Obj} {name : Str}
theorem ifBound_B {id : String} {args : List Value} {Q : Option Value → Shared → Prop} (X : K.In s.heap) (I : InstAt s.heap x ox C od) (hs : findIn K (.ref C) name = some (some (.builtin id)))
    (hb : ∀ self, bindSpecial (.builtin id) self = pure (.builtin id, [self])) (h : wpAny M A (call (.builtin id) (.ref x :: args)) (fun v => Q (some v)) E s) : wpAny M A (callSpecialIfBound? (.ref x) name args) Q E s := by
  simp only [callSpecialIfBound?, bindSpecialIfBound?]
  refine wpAny_holding (wpAny_bind (wpAny_bind (wpAny_bind (I.type.here ((looks_findIn X hs).here ?_)))))
  refine wpAny_bind (wpAny_askSetting (wpAny_ite ?_))
  have fin : wpAny M A (call (.builtin id) ([.ref x] ++ args) >>= fun v => pure (some v)) Q E s := wpAny_bind (wpAny_mono h (fun v s' h' => wpAny_pure h') fun _ _ h' => h')
  split
  · exact wpAny_bind ((Looks.of_pure (hb _)).here (wpAny_pure (by exact fin)))
  · exact wpAny_tryCatch (wpAny_bind ((Looks.of_pure (hb _)).here (wpAny_pure (by exact fin))))
/-- object.__ne__ asks the own __eq__ -/
theorem one_K {b : Value} {Q : Value → Shared → Prop} (hu : A.in1.units < cLine) (X : K.In s.heap) (I : InstAt s.heap x ox C od) (hm : mroIn K C (.type "object") = some true)
    (he : findIn K (.ref C) "__eq__" = some (some (.ref f))) (hf : isFn K (.ref f) = true)
    (h : wpAny (model prog w) A.in1 (call (.ref f) [.ref x, b]) (fun v s' => ∃ r, v = .bool r ∧ Q (.bool (!r)) s') E s) : wpAny (model prog w) A (call (.builtin "object.__ne__") [.ref x, b]) Q E s := by
  refine wpAny_call (codeAny_call_builtin PySem.F.slot_object_ne.plain PySem.F.cmpEntry_ne (check_slot (i := "object.__ne__") (owner := "object") (n := "__ne__") (by decide +kernel) (by decide +kernel) (I.type.andThen (looks_mroIn X hm)) (PySem.F.cmpArgs_ne _ _) ?_))
  unfold Builtin.«object.__ne__»
  repeat (first
    | with_reducible refine wpAny_cRoomFor hu ?_
    | (refine wpAny_bind (m := callSpecialIfBound? (.ref x) (Str.ofString "__eq__") [b])
        (ifBound_K X I he hf (wpAny_mono h (fun r s' hr => by
          obtain ⟨b, rfl, hq⟩ := hr
          repeat (first | exact hq | exact wpAny_pure hq | exact wpAny_truthy_bool hq | (refine wpAny_bind (m := truthy (.bool _)) (wpAny_truthy_bool ?_)) | wp_step)) fun _ _ e => e)))
    | wp_step)
theorem ne_own {b tb : Value} {Q : Value → Shared → Prop} (hu : A.in1.units < cLine) (hu0 : A.units < cLine) (X : K.In s.heap) (I : InstAt s.heap x ox C od) (hb : Looks (model prog w) s.heap (typeOf b) tb) (hn : notFirst K C tb = true)
    (hm : mroIn K C (.type "object") = some true) (hne : findIn K (.ref C) "__ne__" = some (some (.builtin "object.__ne__")))
    (he : findIn K (.ref C) "__eq__" = some (some (.ref f))) (hf : isFn K (.ref f) = true)
    (h : wpAny (model prog w) A.in1 (call (.ref f) [.ref x, b]) (fun v s' => ∃ r, v = .bool r ∧ Q (.bool (!r)) s') E s) : wpAny (model prog w) A (richCompare .NotEq (.ref x) b) Q E s := by
  have one : wpAny (model prog w) A (tryCompare (.ref x) (cmpInfo .NotEq).2.1 b) (fun r s' => ∃ v, r = some v ∧ Q v s') E s := by
    unfold tryCompare
    refine wpAny_bind (ifBound_B X I hne PySem.F.slot_object_ne.bind (one_K hu X I hm he hf (wpAny_mono h (fun v s' hv => ?_) fun _ _ e => e)))
    obtain ⟨r, rfl, hq⟩ := hv
    exact ⟨r, rfl, wpAny_pure ⟨_, rfl, hq⟩⟩
  unfold richCompare
  simp only [oneThing_ref]
  refine wpAny_holding (wpAny_bind (wpAny_cRoomFor hu0 ?_))
  refine wpAny_bind (I.type.here (wpAny_bind (hb.here ?_)))
  split
  · rename_i q
    have e : subIn K tb (.ref C) = some false := by
      rcases Bool.or_eq_true_iff.mp hn with e | e
      · rw [beq_iff_eq.mp e] at q; simp at q
      · exact beq_iff_eq.mp e
    refine wpAny_bind ((looks_subIn X e).here ?_)
    simp only [Bool.false_eq_true, if_false]
    refine wpAny_bind (wpAny_mono one (fun r s' z => ?_) fun _ _ e => e)
    obtain ⟨v, rfl, hq⟩ := z
    exact wpAny_pure hq
  · refine wpAny_bind (wpAny_pure ?_)
    simp only [Bool.false_eq_true, if_false]
    refine wpAny_bind (wpAny_mono one (fun r s' z => ?_) fun _ _ e => e)
    obtain ⟨v, rfl, hq⟩ := z
    exact wpAny_pure hq
end
/-- x != y, by the own __eq__ -/
def rNeOwn (K : PySem.W.Frag) (C : Addr) (sp : Sp) (E : XK) : R2 := fun x y H Q => ∃ a dx fs t, x = .ref a ∧ H a = some (.ins C dx fs) ∧ TyX K H y t ∧ PySem.W.notFirst K C t = true ∧ sp [x, y] H (fun z H' => ∃ r, z = .bl r ∧ Q (.bl (!r)) H') E
theorem op_neOwn (hm : PySem.W.mroIn X.K C (.type "object") = some true) (hne : PySem.W.findIn X.K (.ref C) "__ne__" = some (some (.builtin "object.__ne__"))) (hs : PySem.W.findIn X.K (.ref C) "__eq__" = some (some (.ref g))) (hf : PySem.W.isFn X.K (.ref g) = true)
    (F : FnOk X.prog X.w X.K X.mg X.base CX n g fd ps sp) (hb : Binds X.K fd ps []) (hr : Room (n + 1) X.A) (hx : Passes CX X E) : OpR X (compareOp .NotEq) (rNeOwn X.K C sp E) := by
  intro pins s σ H x y v u Q I rx ry h
  obtain ⟨a, dx, fs, t, rfl, ha, ht, hn, q⟩ := h
  cases (show v = Value.ref a from rx)
  obtain ⟨mA, O, _, _, _, _⟩ := ins_get I.hok ha
  obtain ⟨od, J, _⟩ := O.look
  show wpAny _ _ (richCompare .NotEq _ _) _ _ _
  refine ne_own (tb := t) hr.in1.units0 hr.units0 I.kIn J (looks_ty I ry ht) hn hm hne hs hf ?_
  refine wpAny_mono (run_under (us := [.ref a, u]) (ws := [.ref a, y]) F hb hr.in1 I.env0.in1 hx I (.cons rfl (.cons ry .nil)) q) (fun w s' z => ?_) fun _ _ x => x
  obtain ⟨z', H', I', rz, r, ez, qz⟩ := z
  subst ez
  cases (show w = Value.bool r from rz)
  exact ⟨r, rfl, .bl (!r), H', I', rfl, qz⟩
/-- repr of True, False -/
theorem call_repr_bool : CallR X (.builtin "repr") (fun xs H Q => ∃ b, xs = [.bl b] ∧ Q (.str (if b then "True" else "False")) H) := by
  intro pins s σ H xs us Q I r h
  obtain ⟨b, rfl, q⟩ := h
  obtain ⟨u, rfl, ru⟩ := r.one
  cases (show u = Value.bool b from ru)
  exact PySem.P.repr_of_bool ⟨.str _, H, I.tok _, ⟨_, rfl⟩, q⟩
end
end L2

set_option maxHeartbeats 4000000
namespace L2
open PySem PySem.Spec PyProof.Rows
/-! ### a def of the module as it stands behind the top, and what it promises -/
structure FunAt (K : PySem.W.Frag) (mg : Str → Option Value) (x qual : Str) (st : Stmt) : Prop where
  ex : ∃ (f : Addr) (fd : FuncData), mg x = some (.ref f) ∧ Fun K x qual st f fd
structure Has (P : Program) (w : World) (K : PySem.W.Frag) (mg : Str → Option Value) (base : Heap) (x : Str) (k : Nat) (ps : List Str) (sp : Sp) : Prop where
  ex : ∃ (f : Addr) (fd : FuncData), mg x = some (.ref f) ∧ PySem.W.keepIn K (.ref f) = true ∧ Binds K fd ps [] ∧ FnOk P w K mg base CX0 k f fd ps sp
section
variable {P : Program} {w : World} {K : PySem.W.Frag} {mg : Str → Option Value} {base : Heap}
theorem has_of {x qual : Str} {st : Stmt} {N ps : List Str} {k : Nat} {sp : Sp} (F : FunAt K mg x qual st) (S : FnScope N ps (defScope st))
    (hb : ∀ (kV doc pm : Value) (an : Option Addr) (cdv ct : Value) (us : List Value), us.length = ps.length → bindArgs (PySem.W.fnOf x qual (defArgs st) (defBody st) (defScope st) .none kV doc pm an cdv ct) ⟨us, []⟩ = pure (ps.zip us))
    (len : ∀ vs H Q E, sp vs H Q E → vs.length = ps.length)
    (hbody : ∀ (f : Addr) (cdv : Value) (A : Around) (outer : List Env) (s : Shared) (H : Hp) (vs : List V) (Q : VK) (E : XK), Room k (A.deeper (envOfC qual (defScope st) s.heap.objs.size f cdv)) → sp vs H Q E →
      ∃ t, PSs (cxOf CX0 P w K mg base N qual (defScope st) f cdv A outer s H E).nox (defBody st) t ∧ t { nx := fun _ H' => Q .non H', rt := Q } (start N vs) H) : Has P w K mg base x (k + 1) ps sp := by
  obtain ⟨f, fd, hm, F⟩ := F.ex
  exact ⟨f, fd, hm, F.kp, F.binds hb, F.ok S len (hbody f)⟩
theorem Has.mono {x : Str} {j k : Nat} {ps : List Str} {sp : Sp} (h : Has P w K mg base x j ps sp) (hk : j ≤ k) : Has P w K mg base x k ps sp := by
  obtain ⟨f, fd, a, b, c, d⟩ := h.ex
  exact ⟨f, fd, a, b, c, d.mono hk⟩
theorem Has.imp {x : Str} {k : Nat} {ps : List Str} {sp sp' : Sp} (h : Has P w K mg base x k ps sp) (i : ∀ vs H Q E, sp' vs H Q E → sp vs H Q E) : Has P w K mg base x k ps sp' := by
  obtain ⟨f, fd, a, b, c, d⟩ := h.ex
  exact ⟨f, fd, a, b, c, d.imp i⟩
end
section
variable {X : Cx} {x : Str} {k : Nat} {ps : List Str} {sp : Sp} {p pos : Pos} {e : Expr} {es : List Expr} {t : TA}
/-- f(e, ..) -/
theorem pe_has (h : Has X.prog X.w X.K X.mg X.base x k ps sp) (hr : Room k X.A) (ha : PA X (e :: es) t) (hg : Gl X x := by rfl) (hdb : (x == ("__debug__" : Str)) = false := by decide)
    (he : starEach (e :: es) X.env = (false, eval e X.env) :: starEach es X.env := by rfl) (hpl : (backTo pos (starEach es X.env)).any (·.1) = false := by rfl) :
    PE X (.Call (.Name x p) (e :: es) [] pos) (tCall sp [] E0 t) := by
  obtain ⟨f, fd, hm, hk, hb, F⟩ := h.ex
  exact pe_call F hr hg hm hk hb .nil pass0 ha hdb he hpl
end
/-! ### a class's def -/
structure MethAt (K : PySem.W.Frag) (C : Addr) (m qual : Str) (st : Stmt) : Prop where
  ex : ∃ (f : Addr) (fd : FuncData), Meth K C m f ∧ Fun K m qual st f fd
structure HasM (P : Program) (w : World) (K : PySem.W.Frag) (mg : Str → Option Value) (base : Heap) (C : Addr) (m : Str) (k : Nat) (ps : List Str) (sp : Sp) : Prop where
  ex : ∃ (f : Addr) (fd : FuncData), Meth K C m f ∧ Binds K fd ps [] ∧ FnOk P w K mg base CX0 k f fd ps sp
structure PropAt (K : PySem.W.Frag) (C : Addr) (m qual : Str) (st : Stmt) : Prop where
  ex : ∃ (p g : Addr) (fd : FuncData), PropOf K C m p g ∧ Fun K m qual st g fd
structure HasP (P : Program) (w : World) (K : PySem.W.Frag) (mg : Str → Option Value) (base : Heap) (C : Addr) (m : Str) (k : Nat) (sp : Sp) : Prop where
  ex : ∃ (p g : Addr) (fd : FuncData), PropOf K C m p g ∧ Binds K fd ["self"] [] ∧ FnOk P w K mg base CX0 k g fd ["self"] sp
section
variable {P : Program} {w : World} {K : PySem.W.Frag} {mg : Str → Option Value} {base : Heap} {C : Addr}
theorem hasM_of {m qual : Str} {st : Stmt} {N ps : List Str} {k : Nat} {sp : Sp} (F : MethAt K C m qual st) (S : FnScope N ps (defScope st))
    (hb : ∀ (kV doc pm : Value) (an : Option Addr) (cdv ct : Value) (us : List Value), us.length = ps.length → bindArgs (PySem.W.fnOf m qual (defArgs st) (defBody st) (defScope st) .none kV doc pm an cdv ct) ⟨us, []⟩ = pure (ps.zip us))
    (len : ∀ vs H Q E, sp vs H Q E → vs.length = ps.length)
    (hbody : ∀ (f : Addr) (cdv : Value) (A : Around) (outer : List Env) (s : Shared) (H : Hp) (vs : List V) (Q : VK) (E : XK), Room k (A.deeper (envOfC qual (defScope st) s.heap.objs.size f cdv)) → sp vs H Q E →
      ∃ t, PSs (cxOf CX0 P w K mg base N qual (defScope st) f cdv A outer s H E).nox (defBody st) t ∧ t { nx := fun _ H' => Q .non H', rt := Q } (start N vs) H) : HasM P w K mg base C m (k + 1) ps sp := by
  obtain ⟨f, fd, hm, F⟩ := F.ex
  exact ⟨f, fd, hm, F.binds hb, F.ok S len (hbody f)⟩
theorem hasP_of {m qual : Str} {st : Stmt} {N : List Str} {k : Nat} {sp : Sp} (F : PropAt K C m qual st) (S : FnScope N ["self"] (defScope st))
    (hb : ∀ (kV doc pm : Value) (an : Option Addr) (cdv ct : Value) (us : List Value), us.length = (["self"] : List Str).length → bindArgs (PySem.W.fnOf m qual (defArgs st) (defBody st) (defScope st) .none kV doc pm an cdv ct) ⟨us, []⟩ = pure ((["self"] : List Str).zip us))
    (len : ∀ vs H Q E, sp vs H Q E → vs.length = (["self"] : List Str).length)
    (hbody : ∀ (f : Addr) (cdv : Value) (A : Around) (outer : List Env) (s : Shared) (H : Hp) (vs : List V) (Q : VK) (E : XK), Room k (A.deeper (envOfC qual (defScope st) s.heap.objs.size f cdv)) → sp vs H Q E →
      ∃ t, PSs (cxOf CX0 P w K mg base N qual (defScope st) f cdv A outer s H E).nox (defBody st) t ∧ t { nx := fun _ H' => Q .non H', rt := Q } (start N vs) H) : HasP P w K mg base C m (k + 1) sp := by
  obtain ⟨p, g, fd, hm, F⟩ := F.ex
  exact ⟨p, g, fd, hm, F.binds hb, F.ok S len (hbody g)⟩
end
section
variable {X : Cx} {C : Addr} {m : Str} {k : Nat} {ps : List Str} {sp : Sp} {apos pos : Pos} {o e : Expr} {es : List Expr} {ta : TE} {t : TA}
theorem pe_hasP (h : HasP X.prog X.w X.K X.mg X.base C m k sp) (c : Cls X.K C) (hr : Room (k + 1) X.A) (ho : PE X o ta) (hab : attributeBase o m X.env (eval o X.env) = eval o X.env := by rfl) :
    PE X (.Attribute o m pos) (tProp C sp [] E0 ta) := by
  obtain ⟨p, g, fd, hp, hb, F⟩ := h.ex
  exact pe_prop ho c hp F hr hb .nil pass0 hab
end
end L2
namespace L2
open PySem PySem.Spec PyProof.Rows
/-! ### an own class: what isinstance, ==, the arithmetic signs ask -/
structure OwnC (K : PySem.W.Frag) (C : Addr) : Prop where
  cl : Cls K C
  ca : PySem.W.findIn K (.ref C) "__class__" = some (some (.builtin "object.__class__"))
  cn : PySem.W.specialIn K (.builtin "object.__class__") "__get__" = some (some (.builtin "getset_descriptor.__get__"))
  ct : PySem.W.takesIn K (.builtin "object.__class__") = some true
  mo : PySem.W.mroIn K C (.type "object") = some true
  ic : PySem.W.isClsIn K C = true
  tc : PySem.W.typeIn K (.ref C) = some (.type "type")
theorem OwnC.ty {K : PySem.W.Frag} {C : Addr} (o : OwnC K C) {H : Hp} {a dx : Addr} {fs : List (Str × V)} (e : H a = some (.ins C dx fs)) : TyX K H (.ref a) (.ref C) := .base (.ins e o.cl o.ca o.cn o.ct o.mo)
theorem kit_self {K : PySem.W.Frag} {t : Value} : PySem.W.kitOne K t t = some true := by
  unfold PySem.W.kitOne
  rw [if_pos (by simp)]
theorem OwnC.kit {K : PySem.W.Frag} {C : Addr} (o : OwnC K C) {T : String} {b : Bool} (h : PySem.W.subIn K (.type T) (.ref C) = some b) : PySem.W.kitOne K (.type T) (.ref C) = some b := by
  unfold PySem.W.kitOne PySem.W.kitCls
  have e : (Value.type T == Value.ref C) = false := Bool.eq_false_iff.mpr fun q => by cases beq_iff_eq.mp q
  have h1 : (PySem.W.clsIn K C).isSome = true := o.ic
  rw [if_neg (by rw [e]; decide)]
  show (if ((PySem.W.clsIn K C).isSome && PySem.W.typeIn K (.ref C) == some (.type "type")) = true then _ else _) = _
  rw [if_pos (by rw [h1, o.tc]; simp)]
  exact h
theorem notFirst_self {K : PySem.W.Frag} {C : Addr} : PySem.W.notFirst K C (.ref C) = true := by
  unfold PySem.W.notFirst
  simp
theorem notFirst_ty {K : PySem.W.Frag} {C : Addr} {T : String} (h : PySem.W.subIn K (.type T) (.ref C) = some false) : PySem.W.notFirst K C (.type T) = true := by
  unfold PySem.W.notFirst
  rw [h]
  simp
/-! ### a def with defaults -/
structure HasK (P : Program) (w : World) (K : PySem.W.Frag) (mg : Str → Option Value) (base : Heap) (x : Str) (C : Addr) (k : Nat) (ps : List Str) (sp : Sp) (dvs : List V) : Prop where
  ex : ∃ (f : Addr) (fd : FuncData) (ds : List Value), mg x = some (.ref C) ∧ Mk K C f ∧ Binds K fd ps ds ∧ Vals dvs ds ∧ FnOk P w K mg base CX0 k f fd ps sp
/-- a new instance: what __init__ promises of it, told of the call -/
def tNew (R : List V → Hp → VK → Prop) (t : TA) : TE := fun σ H Q => t σ H fun vs H1 => R vs H1 Q
section
variable {X : Cx} {x : Str} {C : Addr} {k : Nat} {ps : List Str} {sp : Sp} {dvs : List V} {p pos : Pos} {e : Expr} {es : List Expr} {t : TA}
theorem PE.imp {e : Expr} {t t' : TE} (h : PE X e t) (i : ∀ σ H Q, t' σ H Q → t σ H Q) : PE X e t' := ⟨fun pins s σ H Q I q => h.run pins s σ H Q I (i σ H Q q)⟩
theorem pe_hasK (h : HasK X.prog X.w X.K X.mg X.base x C k ps sp dvs) (hr : Room (k + 1) X.A) (ha : PA X (e :: es) t) (hg : Gl X x := by rfl) (hdb : (x == ("__debug__" : Str)) = false := by decide)
    (he : starEach (e :: es) X.env = (false, eval e X.env) :: starEach es X.env := by rfl) (hpl : (backTo pos (starEach es X.env)).any (·.1) = false := by rfl) :
    PE X (.Call (.Name x p) (e :: es) [] pos) (tMake C sp dvs E0 t) := by
  obtain ⟨f, fd, ds, hm, M, hb, hd, F⟩ := h.ex
  exact pe_make M F hr hg hm hb hd pass0 ha hdb he hpl
theorem pe_hasK0 (h : HasK X.prog X.w X.K X.mg X.base x C k ps sp dvs) (hr : Room (k + 1) X.A) (hg : Gl X x := by rfl) (hdb : (x == ("__debug__" : Str)) = false := by decide) :
    PE X (.Call (.Name x p) [] [] pos) (tMake C sp dvs E0 tNil) := by
  obtain ⟨f, fd, ds, hm, M, hb, hd, F⟩ := h.ex
  exact pe_make0 M F hr hg hm hb hd pass0 hdb
end
end L2
namespace L2
open PySem PySem.Spec PyProof.Rows
theorem lk_hd {f : Str} {v : V} {r : List (Str × V)} : ((f, v) :: r).lookup f = some v := by simp [List.lookup]
theorem lk_tl {f g : Str} {v : V} {r : List (Str × V)} {o : Option V} (h : ¬ f = g) (k : r.lookup f = o) : ((g, v) :: r).lookup f = o := by
  have e : (f == g) = false := by simpa using h
  simp [List.lookup, e, k]
theorem putF_new {f : Str} {v : V} : ∀ {r : List (Str × V)}, (∀ q ∈ r, ¬ q.1 = f) → putF f v r = r ++ [(f, v)]
  | [], _ => rfl
  | (g, x) :: r, h => by
    show (if g = f then (g, v) :: r else (g, x) :: putF f v r) = _
    rw [if_neg (h (g, x) List.mem_cons_self), putF_new fun q hq => h q (List.mem_cons_of_mem _ hq)]
    rfl
/-- a class's def with defaults, made by its name -/
structure InitAt (K : PySem.W.Frag) (mg : Str → Option Value) (x : Str) (C : Addr) (qual : Str) (st : Stmt) (dvs : List V) (kws : List (Str × V)) : Prop where
  ex : ∃ (f : Addr) (fd : FuncData), mg x = some (.ref C) ∧ Mk K C f ∧ FunD K "__init__" qual (defArgs st) (defBody st) (defScope st) dvs kws f fd
/-- the same as a method -/
structure MethD (K : PySem.W.Frag) (C : Addr) (m qual : Str) (st : Stmt) (dvs : List V) (kws : List (Str × V)) : Prop where
  ex : ∃ (f : Addr) (fd : FuncData), Meth K C m f ∧ FunD K m qual (defArgs st) (defBody st) (defScope st) dvs kws f fd
structure HasD (P : Program) (w : World) (K : PySem.W.Frag) (mg : Str → Option Value) (base : Heap) (C : Addr) (m : Str) (k : Nat) (ps : List Str) (sp : Sp) (dvs : List V) : Prop where
  ex : ∃ (f : Addr) (fd : FuncData) (ds : List Value), Meth K C m f ∧ Binds K fd ps ds ∧ Vals dvs ds ∧ FnOk P w K mg base CX0 k f fd ps sp
section
variable {X : Cx} {C : Addr} {m : Str} {k : Nat} {ps : List Str} {sp : Sp} {dvs : List V} {apos pos : Pos} {o e : Expr} {es : List Expr} {ta : TE} {t : TA} {pl : Sem Bool}
theorem pe_hasD (h : HasD X.prog X.w X.K X.mg X.base C m k ps sp dvs) (c : Cls X.K C) (hr : Room k X.A) (ho : PE X o ta) (ha : PA X (e :: es) t)
    (hst : starEach (e :: es) X.env = (false, eval e X.env) :: starEach es X.env := by rfl) (hpl : (backTo pos (starEach es X.env)).any (·.1) = false := by rfl)
    (ht : eval (.Call (.Attribute o m apos) (e :: es) [] pos) X.env = (do
      let ov ← eval o X.env
      standAt apos.atName
      let (f, first) ← holding [ov] (getMethod ov m pl)
      callWith pos f first (backTo pos (starEach (e :: es) X.env)) (backToKw pos (keywordEach [] X.env))) := by rfl) :
    PE X (.Call (.Attribute o m apos) (e :: es) [] pos) (tMeth C m sp dvs E0 ta t) := by
  obtain ⟨f, fd, ds, hm, hb, hd, F⟩ := h.ex
  exact pe_meth ho c hm F hr hb hd pass0 ha hst hpl ht
theorem pe_hasM (h : HasM X.prog X.w X.K X.mg X.base C m k ps sp) (c : Cls X.K C) (hr : Room k X.A) (ho : PE X o ta) (ha : PA X (e :: es) t)
    (hst : starEach (e :: es) X.env = (false, eval e X.env) :: starEach es X.env := by rfl) (hpl : (backTo pos (starEach es X.env)).any (·.1) = false := by rfl)
    (ht : eval (.Call (.Attribute o m apos) (e :: es) [] pos) X.env = (do
      let ov ← eval o X.env
      standAt apos.atName
      let (f, first) ← holding [ov] (getMethod ov m pl)
      callWith pos f first (backTo pos (starEach (e :: es) X.env)) (backToKw pos (keywordEach [] X.env))) := by rfl) :
    PE X (.Call (.Attribute o m apos) (e :: es) [] pos) (tMeth C m sp [] E0 ta t) := by
  obtain ⟨f, fd, hm, hb, F⟩ := h.ex
  exact pe_meth ho c hm F hr hb .nil pass0 ha hst hpl ht
end
end L2
namespace L2
open PySem PySem.Spec PyProof.Rows
theorem Same.st {K : PySem.W.Frag} {H H' : Hp} {a : Addr} {xs : List V} (e : Same H H') (h : SqT K H a xs) : SqT K H' a xs := by
  rcases h with (h | ⟨o, h⟩) | h
  · exact .inl (.inl (e _ _ h))
  · exact .inl (.inr ⟨o, e _ _ h⟩)
  · exact .inr h
end L2
namespace L2
open PySem PySem.Spec PyProof.Rows
theorem Same.mut {H H' : Hp} {p : Addr} {o : HO} (e : Same H H') (h : H p = none) : Same H (upd H' p o) := fun a u ha => by
  rw [upd_ne (ne_of_none ha h)]
  exact e a u ha
theorem walk_zipT {K : PySem.W.Frag} {a b : Addr} {xs ys : List V} {n : Nat} (hn : n = min xs.length ys.length) : Walk (RZ.ItzT K a b) n (fun H => SqT K H a xs ∧ SqT K H b ys) (YPair (fun i => xs[i]?) (fun i => ys[i]?)) := by
  subst hn
  refine ⟨fun i _ hi q => ?_, fun _ q => ⟨xs, ys, q.1, q.2, by omega⟩, fun i H v H' _ q y => ?_⟩
  · have h1 : i < xs.length := by omega
    have h2 : i < ys.length := by omega
    exact ⟨xs, ys, xs[i], ys[i], q.1, q.2, by simp [h1], by simp [h2]⟩
  · obtain ⟨T, x, z, h1, h2, h3, h4, h5⟩ := y
    exact ⟨T, x, z, h1, h2, h3, h4 xs q.1, h5 ys q.2⟩
/-- a comprehension without a test whose element leaves what was tracked: the new list of val 0, val 1, .. -/
theorem lc_map {J : It} {n : Nat} {G : Hp → Prop} {Y : Nat → Hp → V → Hp → Prop} (w : Walk J n G Y) {g : TG} {te : TE} {vs : List Nat} {σ : St} {H1 : Hp} {D : Addr} {Qd : Hp → Prop} (val : Nat → V) (nD : H1 D = none) (hn : n < 1000000)
    (hG : ∀ H, Same H1 H → G H)
    (hs : ∀ i x H H', i < n → Same H1 H → Y i H x H' → ∀ R : V → Hp → Prop, (∀ H4, Same H H4 → R (val i) H4) → g x (wipe σ vs) H' fun σ2 H2 => wipe σ2 vs = wipe σ vs ∧ te σ2 H2 R)
    (hd : ∀ H, Same H1 H → H D = some (.lst ((List.range n).map val)) → Qd H) :
    ∃ W : Nat → Nat → Hp → Prop, (∃ m, W 0 m (upd H1 D (.lst []))) ∧ ∀ i m H, W i m H →
      (J.stop i H ∧ Qd H) ∨ (J.go i H ∧ ∃ Nx : Hp → Prop, (∀ H', Nx H' → ∃ m', m' < m ∧ W (i + 1) m' H') ∧ ∀ x H', J.yld i H x H' → g x (wipe σ vs) H' fun σ2 H2 => wipe σ2 vs = wipe σ vs ∧ tYes σ2 H2 fun b H3 =>
        if b = true then te σ2 H3 fun y H4 => ∃ acc, H4 D = some (.lst acc) ∧ acc.length < sizeLine ∧ Nx (upd H4 D (.lst (acc ++ [y]))) else Nx H3) := by
  refine lc_it w (fun i H => Same H1 H ∧ H D = some (.lst ((List.range i).map val))) ⟨fun b o h => by rw [upd_ne (ne_of_none h nD)]; exact h, upd_same⟩ (fun i H _ p => hG H p.1) ?_ (fun H p => hd H p.1 p.2)
  rintro i x H H' hi ⟨p1, p2⟩ y
  have h := hs i x H H' hi p1 y (fun y' H4 => ∃ acc, H4 D = some (.lst acc) ∧ acc.length < sizeLine ∧ (Same H1 (upd H4 D (.lst (acc ++ [y']))) ∧ (upd H4 D (.lst (acc ++ [y']))) D = some (.lst ((List.range (i + 1)).map val)))) fun H4 s4 => by
    refine ⟨_, s4 _ _ p2, ?_, (p1.trans s4).mut nD, ?_⟩
    · rw [List.length_map, List.length_range]
      exact Nat.lt_of_lt_of_le (by omega : i < 1000000) (by decide)
    · rw [List.range_succ, List.map_append]
      exact upd_same
  exact h
end L2
namespace L2
open PySem PySem.Spec PyProof.Rows
/-! ### rules whose reading names the written part, for a comprehension's block -/
section
variable {X : Cx}
theorem pg_tupK (K : PySem.W.Frag) (n : Nat) (hK : X.K = K := by rfl) {es : List Expr} {k : Nat} {t : TGs} {pos : Pos} (hc : X.calm = true) (h : PGs X es t)
    (hn : (assignEach es X.env).length = n := by rfl) (hst : (assignEach es X.env).findIdx? (·.1) = none := by rfl) : PG X (.Tuple es k pos) (gTup K n t) := by
  subst hK
  exact pg_tup hc h hn hst
theorem ix_listK (K : PySem.W.Frag) (hK : X.K = K := by rfl) : IxR X (rIxL K) := by
  subst hK
  exact ix_list
theorem ix_tupK (K : PySem.W.Frag) (hK : X.K = K := by rfl) : IxR X (rIxT K) := by
  subst hK
  exact ix_tup
theorem pe_fldK (K : PySem.W.Frag) {e : Expr} {ta : TE} {f : Str} {pos : Pos} (he : PE X e ta) (hb : attributeBase e f X.env (eval e X.env) = eval e X.env) (hK : X.K = K := by rfl) : PE X (.Attribute e f pos) (tFld K ta f) := by
  subst hK
  exact pe_fld he hb
end
end L2
namespace L2
open PySem PySem.Spec PyProof.Rows
/-! ### the end: what the top has written, read off the written part -/
section
variable {K : PySem.W.Frag} {mg : Str → Option Value} {h : Heap}
theorem funAt_mk {x qual : Str} {st : Stmt} {f : Addr} {oc : Value} {od an : Option Addr} {osl : Array (Option Value)} {kV doc pm cdv ct : Value} (X : K.In h) (G : h.Ns mainGlobals mg) (a : PySem.W.nsIn K mainGlobals x = some (some (.ref f)))
    (l : K.lookup f = some ⟨oc, od, .func (PySem.W.fnOf x qual (defArgs st) (defBody st) (defScope st) .none kV doc pm an cdv ct), osl⟩) (c : PySem.W.codeIn K cdv qual = true) (k : PySem.W.keepIn K (.ref f) = true) : FunAt K mg x qual st :=
  ⟨f, _, PySem.W.mg_of X G a, fun_mk l c k⟩
theorem methAt_mk {C : Addr} {m qual : Str} {st : Stmt} {f : Addr} {oc : Value} {od an : Option Addr} {osl : Array (Option Value)} {kV doc pm cdv ct : Value} (a : PySem.W.findIn K (.ref C) m = some (some (.ref f))) (i : PySem.W.isFn K (.ref f) = true)
    (l : K.lookup f = some ⟨oc, od, .func (PySem.W.fnOf m qual (defArgs st) (defBody st) (defScope st) .none kV doc pm an cdv ct), osl⟩) (c : PySem.W.codeIn K cdv qual = true) (k : PySem.W.keepIn K (.ref f) = true) : MethAt K C m qual st :=
  ⟨f, _, ⟨a, i, k⟩, fun_mk l c k⟩
theorem propAt_mk {C : Addr} {m qual : Str} {st : Stmt} {p g : Addr} {rest : List Value} {oc : Value} {od an : Option Addr} {osl : Array (Option Value)} {kV doc pm cdv ct : Value} (a : PySem.W.findIn K (.ref C) m = some (some (.ref p)))
    (b : PySem.W.specialIn K (.ref p) "__get__" = some (some (.builtin "property.__get__"))) (t : PySem.W.takesIn K (.ref p) = some true) (r : PySem.W.recIn K p "property" = some (.ref g :: rest))
    (l : K.lookup g = some ⟨oc, od, .func (PySem.W.fnOf m qual (defArgs st) (defBody st) (defScope st) .none kV doc pm an cdv ct), osl⟩) (c : PySem.W.codeIn K cdv qual = true) (k : PySem.W.keepIn K (.ref g) = true) : PropAt K C m qual st :=
  ⟨p, g, _, ⟨a, b, t, rest, r⟩, fun_mk l c k⟩
theorem funD_mk {x qual : Str} {st : Stmt} {f T : Addr} {dvs : List V} {oc tc : Value} {od an td : Option Addr} {osl tsl : Array (Option Value)} {kV doc pm cdv ct : Value} {its : List Value} {n : Nat}
    (l : K.lookup f = some ⟨oc, od, .func (PySem.W.fnOf x qual (defArgs st) (defBody st) (defScope st) (.ref T) kV doc pm an cdv ct), osl⟩) (c : PySem.W.codeIn K cdv qual = true) (k : PySem.W.keepIn K (.ref f) = true)
    (t : K.lookup T = some ⟨tc, td, .seq its.toArray n, tsl⟩) (v : Vals dvs its) (hd : dvs ≠ []) : FunD K x qual (defArgs st) (defBody st) (defScope st) dvs [] f (PySem.W.fnOf x qual (defArgs st) (defBody st) (defScope st) (.ref T) kV doc pm an cdv ct) :=
  ⟨⟨oc, od, .ref T, kV, doc, pm, an, cdv, ct, osl, rfl, l, c, .inr ⟨hd, T, _, its, n, rfl, t, rfl, v⟩, .inl rfl⟩, k⟩
theorem initAt_mk {x : Str} {C f : Addr} {qual : Str} {st : Stmt} {dvs : List V} {kws : List (Str × V)} {fd : FuncData} (X : K.In h) (G : h.Ns mainGlobals mg) (g : PySem.W.nsIn K mainGlobals x = some (some (.ref C)))
    (m : PySem.W.makesIn K C = true) (i : PySem.W.findIn K (.ref C) "__init__" = some (some (.ref f))) (n : PySem.W.isFn K (.ref f) = true) (k : PySem.W.keepIn K (.ref C) = true)
    (F : FunD K "__init__" qual (defArgs st) (defBody st) (defScope st) dvs kws f fd) : InitAt K mg x C qual st dvs kws := ⟨f, fd, PySem.W.mg_of X G g, ⟨m, i, n, k⟩, F⟩
theorem methD_mk {C f : Addr} {m qual : Str} {st : Stmt} {dvs : List V} {kws : List (Str × V)} {fd : FuncData} (a : PySem.W.findIn K (.ref C) m = some (some (.ref f))) (i : PySem.W.isFn K (.ref f) = true) (k : PySem.W.keepIn K (.ref f) = true)
    (F : FunD K m qual (defArgs st) (defBody st) (defScope st) dvs kws f fd) : MethD K C m qual st dvs kws := ⟨f, fd, ⟨a, i, k⟩, F⟩
theorem ownC_mk {C : Addr} (pg : PySem.W.plainGet K C Str.empty = true) (hd : PySem.W.hasDictIn K C = true) (po : PySem.W.plainOver K C = true) (sa : PySem.W.findIn K (.ref C) "__setattr__" = some (some (.builtin "object.__setattr__")))
    (ca : PySem.W.findIn K (.ref C) "__class__" = some (some (.builtin "object.__class__"))) (cn : PySem.W.specialIn K (.builtin "object.__class__") "__get__" = some (some (.builtin "getset_descriptor.__get__")))
    (ct : PySem.W.takesIn K (.builtin "object.__class__") = some true) (mo : PySem.W.mroIn K C (.type "object") = some true) (ic : PySem.W.isClsIn K C = true) (tc : PySem.W.typeIn K (.ref C) = some (.type "type")) : OwnC K C :=
  ⟨⟨pg, hd, po, sa⟩, ca, cn, ct, mo, ic, tc⟩
end
end L2

set_option maxHeartbeats 4000000
namespace N
open PySem L2
def top (i : Nat) : Stmt := PySem.Challenge.pw_stitchsizes_k31_whole_forms.main.body.getD i (.Pass ⟨0, 0, 0, 0⟩)
structure Blts (mg : Str → Option Value) : Prop where
  n_abs : mg "abs" = none
  n_len : mg "len" = none
  n_max : mg "max" = none
  n_min : mg "min" = none
  n_int : mg "int" = none
  n_bool : mg "bool" = none
  n_divmod : mg "divmod" = none
  n_isinstance : mg "isinstance" = none
  n_range : mg "range" = none
  n_zip : mg "zip" = none
  n_tuple : mg "tuple" = none
  n_list : mg "list" = none
  n_str : mg "str" = none
  n_repr : mg "repr" = none
  n_all : mg "all" = none
/-- a pot of draws: two counts -/
def Pot (H : Hp) (p : Addr) : Prop := ∃ a b : Int, H p = some (.lst [.int a, .int b]) ∧ 0 ≤ a ∧ 0 ≤ b ∧ b < 4294967296
/-- all that was tracked is as it was, but what stands at p -/
def But (p : Addr) (H H' : Hp) : Prop := ∀ b o, H b = some o → b ≠ p → H' b = some o
theorem But.refl {p : Addr} {H : Hp} : But p H H := fun _ _ h _ => h
theorem But.trans {p : Addr} {H H1 H2 : Hp} (a : But p H H1) (b : But p H1 H2) : But p H H2 := fun c o h n => b c o (a c o h n) n
theorem But.upd {p : Addr} {H : Hp} {o : HO} : But p H (L2.upd H p o) := fun c u h n => by rw [upd_ne n]; exact h
theorem But.new {p q : Addr} {H : Hp} {o : HO} (hq : H q = none) : But p H (L2.upd H q o) := fun c u h n => by rw [upd_ne (ne_of_none h hq)]; exact h
theorem But.free {p q : Addr} {H H' : Hp} (e : But p H H') (hp : q ≠ p) (h : H' q = Option.none) : H q = Option.none := by
  cases z : H q with
  | none => rfl
  | some o =>
    rw [e q o z hp] at h
    cases h
theorem Pot.at {H : Hp} {p : Addr} (h : Pot H p) : ∃ o, H p = some o := let ⟨_, _, e, _⟩ := h; ⟨_, e⟩
theorem Pot.ne {H : Hp} {p q : Addr} (h : Pot H p) (hq : H q = none) : q ≠ p := fun z => by obtain ⟨_, _, e, _⟩ := h; subst z; rw [hq] at e; cases e
theorem Pot.new {H : Hp} {p q : Addr} {o : HO} (h : Pot H p) (hq : H q = none) : Pot (L2.upd H q o) p := by
  obtain ⟨a, b, e, r⟩ := h
  exact ⟨a, b, by rw [upd_ne (ne_of_none e hq)]; exact e, r⟩
def spDraw : Sp := fun vs H Q _ => ∃ (p : Addr) (n : Int), vs = [.ref p, .int n] ∧ Pot H p ∧ 0 < n ∧ n < 1000000 ∧ ∀ d H', 0 ≤ d → d < n → Pot H' p → But p H H' → Q (.int d) H'
section
variable {P : Program} {w : World} {K : PySem.W.Frag} {mg : Str → Option Value} {base : Heap}
abbrev s__law_draw : Stmt := top 15
theorem sc__law_draw : FnScope ["_law_pot_here", "_law_many", "_law_digit"] ["_law_pot_here", "_law_many"] (defScope s__law_draw) := ⟨rfl, rfl, rfl, by decide +kernel, rfl, by decide +kernel, by decide +kernel⟩
theorem h_law_draw (B : Blts mg) (F : FunAt K mg "_law_draw" "_law_draw" s__law_draw) : Has P w K mg base "_law_draw" 1 ["_law_pot_here", "_law_many"] spDraw := by
  refine has_of F sc__law_draw (fun _ _ _ _ _ _ us hl => match us, hl with | [_, _], _ => rfl) (fun vs H Q E h => ?_) (fun f cdv A outer s H vs Q E hr h => ?_)
  · obtain ⟨p, n, rfl, _⟩ := h
    rfl
  · obtain ⟨p, n, rfl, hp, h0, h1, k⟩ := h
    obtain ⟨a, b, hp, ha, hb, hb2⟩ := hp
    refine ⟨_, (pss_cons (ps_if (pt_cmpR op_gt (pe_ix ix_list (pv 0) pe_int (fun _ _ => rfl)) pe_int (by first | exact nomark _ | rfl)) (pss_cons (ps_asg (pe_callB call_divmod (by rfl) B.n_divmod (by decide +kernel) (pa_cons (pe_ix ix_list (pv 0) pe_int (fun _ _ => rfl)) (pa_cons (pv 1) pa_nil))) (pg_tup rfl (pgs_cons (pg_sub (pv 0) pe_int set_list) (pgs_cons (pg_name (i := 2) sc__law_draw.nd rfl (Or.inl rfl)) pgs_nil))))
        (pss_one (ps_ret (pv 2))))
        pss_nil)
      (pss_cons (ps_asg (pe_op op_mod (pe_callTy call_int1 (by rfl) B.n_int (by decide +kernel) (pa_cons (pe_op op_add (pe_op op_mul (pe_ix ix_list (pv 0) pe_int (fun _ _ => rfl)) pe_int) pe_int) pa_nil)) pe_int) (pg_sub (pv 0) pe_int set_list))
      (pss_one (ps_ret (pe_op op_mod (pe_callTy call_int1 (by rfl) B.n_int (by decide +kernel) (pa_cons (pe_op op_fdiv (pe_op op_mod (pe_callTy call_int1 (by rfl) B.n_int (by decide +kernel) (pa_cons (pe_op op_mul (pe_ix ix_list (pv 0) pe_int (fun _ _ => rfl)) (pe_ix ix_list (pv 0) pe_int (fun _ _ => rfl))) pa_nil)) pe_int) pe_int) pa_nil)) (pv 1)))))), ?_⟩
    refine ⟨_, rfl, p, _, 0, _, rfl, rfl, SqL.of hp, rfl, _, _, rfl, rfl, _, rfl, ?_⟩
    refine ite2 (fun c => ?_) (fun _ => ?_)
    · have c' : 0 < a := of_decide_eq_true c
      refine ⟨_, rfl, p, _, 0, _, rfl, rfl, SqL.of hp, rfl, _, rfl, a, n, rfl, ⟨h0, by omega⟩, fun q hq => ?_⟩
      refine ⟨q, _, rfl, SqT.of upd_same, rfl, _, _, rfl, _, rfl, p, _, 0, 0, rfl, rfl, (by rw [upd_ne (ne_of_none hp hq)]; exact hp), rfl, _, _, rfl, rfl, ?_⟩
      refine ⟨_, rfl, k _ _ (Int.emod_nonneg _ (by omega)) (Int.emod_lt_of_pos _ h0) ⟨a / n, b, upd_same, Int.ediv_nonneg ha (by omega), hb, hb2⟩ ?_⟩
      exact (But.new hq).trans But.upd
    · refine ⟨_, rfl, p, _, 1, _, rfl, rfl, SqL.of hp, rfl, _, _, rfl, rfl, .inr ⟨by omega, by omega⟩, _, _, rfl, rfl, .inl ⟨_, rfl, _, _, rfl, rfl, (by decide : (0 : Int) < 2147483587), _, rfl, p, _, 1, 1, rfl, rfl, hp, rfl, ?_⟩⟩
      have g0 : 0 ≤ (b * 44203 + 15511) % 2147483587 := Int.emod_nonneg _ (by decide)
      have g1 : (b * 44203 + 15511) % 2147483587 < 2147483587 := Int.emod_lt_of_pos _ (by decide)
      refine ⟨_, rfl, p, _, 1, _, rfl, rfl, SqL.of upd_same, rfl, _, rfl, p, _, 1, _, rfl, rfl, SqL.of upd_same, rfl, _, _, rfl, rfl, .inr ⟨by omega, by omega⟩, .inl ⟨_, rfl, _, _, rfl, rfl, (by decide : (0 : Int) < 2147483549), _, _, rfl, rfl, ⟨by decide, by decide⟩, .inl ⟨_, rfl, _, rfl, _, _, rfl, rfl, h0, ?_⟩⟩⟩
      exact k _ _ (Int.emod_nonneg _ (by omega)) (Int.emod_lt_of_pos _ h0) ⟨a, _, upd_same, ha, g0, by omega⟩ But.upd
end
end N

set_option maxHeartbeats 4000000
namespace N
open PySem L2
theorem But.of {p : Addr} {H H' : Hp} (h : Same H H') : But p H H' := fun b o e _ => h b o e
theorem Same.new {q : Addr} {H : Hp} {o : HO} (hq : H q = none) : Same H (L2.upd H q o) := fun c u h => by rw [upd_ne (ne_of_none h hq)]; exact h
theorem But.sq {p l : Addr} {K : PySem.W.Frag} {H H' : Hp} {xs : List V} (e : But p H H') (n : l ≠ p) (h : SqL K H l xs) : SqL K H' l xs := by
  rcases h with (h | ⟨o, h⟩) | h
  · exact .inl (.inl (e _ _ h n))
  · exact .inl (.inr ⟨o, e _ _ h n⟩)
  · exact .inr h
theorem But.st {p l : Addr} {K : PySem.W.Frag} {H H' : Hp} {xs : List V} (e : But p H H') (n : l ≠ p) (h : SqT K H l xs) : SqT K H' l xs := by
  rcases h with (h | ⟨o, h⟩) | h
  · exact .inl (.inl (e _ _ h n))
  · exact .inl (.inr ⟨o, e _ _ h n⟩)
  · exact .inr h
theorem atI_at {α : Type} {xs : List α} {d : Int} {v : α} (h0 : 0 ≤ d) (h : xs[d.toNat]? = some v) : atI xs d = some v := by
  have z := atI_nat h
  rwa [Int.toNat_of_nonneg h0] at z
def spPot (K : PySem.W.Frag) : Sp := fun vs H Q _ => ∃ (a : Addr) (ns : List Int) (k : Nat), vs = [.ref a, .int k] ∧ SqL K H a (ns.map V.int) ∧ ns.length ≤ 63 ∧ k ≤ 63 ∧ ∀ p H', H p = none → Pot H' p → Same H H' → Q (.ref p) H'
def spPick (K : PySem.W.Frag) : Sp := fun vs H Q _ => ∃ (p l : Addr) (xs : List V), vs = [.ref p, .ref l] ∧ Pot H p ∧ SqL K H l xs ∧ l ≠ p ∧ xs ≠ [] ∧ xs.length < 1000000 ∧ ∀ v H', v ∈ xs → Pot H' p → But p H H' → Q v H'
section
variable {P : Program} {w : World} {K : PySem.W.Frag} {mg : Str → Option Value} {base : Heap}
abbrev s__law_pot : Stmt := top 14
theorem sc__law_pot : FnScope ["_law_script", "_law_k", "_law_cell"] ["_law_script", "_law_k"] (defScope s__law_pot) := ⟨rfl, rfl, rfl, by decide +kernel, rfl, by decide +kernel, by decide +kernel⟩
theorem h_law_pot (B : Blts mg) (F : FunAt K mg "_law_pot" "_law_pot" s__law_pot) : Has P w K mg base "_law_pot" 1 ["_law_script", "_law_k"] (spPot K) := by
  refine has_of F sc__law_pot (fun _ _ _ _ _ _ us hl => match us, hl with | [_, _], _ => rfl) (fun vs H Q E h => ?_) (fun f cdv A outer s H vs Q E hr h => ?_)
  · obtain ⟨p, n, k, rfl, _⟩ := h
    rfl
  · obtain ⟨a, ns, j, rfl, hs, hn, hj, k⟩ := h
    refine ⟨_, (pss_cons (ps_set (i := 2) sc__law_pot.nd rfl (Or.inl rfl) (pe_ifExp (pt_cmpR op_lt (pv 1) (pe_callB call_len (by rfl) B.n_len PySem.boot_len (pa_cons (pv 0) pa_nil)) (by first | exact nomark _ | rfl)) (pe_ix ix_list (pv 0) (pv 1) (fun _ _ => rfl)) (pe_op op_mul pe_int (pv 1))))
      (pss_one (ps_ret (pe_lst (pa_cons (pe_callB (call_max2 rfl) (by rfl) B.n_max (by decide +kernel) (pa_cons pe_int (pa_cons (pe_op op_sub (pe_callB call_abs (by rfl) B.n_abs (by decide +kernel) (pa_cons (pv 2) pa_nil)) (pe_op op_pow pe_int pe_int)) pa_nil))) (pa_cons (pe_op op_add (pe_op op_mod (pe_callTy call_int1 (by rfl) B.n_int (by decide +kernel) (pa_cons (pe_op op_add (pe_op op_add (pe_op op_mul (pe_op op_mod (pe_callTy call_int1 (by rfl) B.n_int (by decide +kernel) (pa_cons (pe_callB call_abs (by rfl) B.n_abs (by decide +kernel) (pa_cons (pv 2) pa_nil)) pa_nil)) pe_int) pe_int) (pe_op op_mul pe_int (pv 1))) pe_int) pa_nil)) pe_int) pe_int) pa_nil)))))), ?_⟩
    have rest : ∀ z : Int, ∀ (c : Int), c = (if z < 0 then -z else z) → ∀ (y : Int), y = (if 0 < c - 10 ^ 18 then c - 10 ^ 18 else 0) →
        ∀ q, H q = none → Q (.ref q) (upd H q (.lst [.int y, .int ((c % 2147483563 * 40009 + 61297 * (j : Int) + 17) % 2147483629 + 1)])) := by
      intro z c hc y hy q hq
      have c0 : 0 ≤ c := by subst hc; split <;> omega
      have y0 : 0 ≤ y := by subst hy; split <;> omega
      have g0 : 0 ≤ (c % 2147483563 * 40009 + 61297 * (j : Int) + 17) % 2147483629 := Int.emod_nonneg _ (by decide)
      have g1 : (c % 2147483563 * 40009 + 61297 * (j : Int) + 17) % 2147483629 < 2147483629 := Int.emod_lt_of_pos _ (by decide)
      exact k q _ hq ⟨y, _, upd_same, y0, by omega, by omega⟩ (Same.new hq)
    refine ⟨_, rfl, _, rfl, _, ns.length, rfl, .inl ⟨_, hs, by rw [List.length_map]⟩, _, _, rfl, rfl, _, rfl, ?_⟩
    have e10 : ((10 : Int) ^ (18 : Int).toNat) = 10 ^ 18 := rfl
    refine ite2 (fun c => ?_) (fun c => ?_)
    · have hlt : j < ns.length := by have := of_decide_eq_true c; omega
      refine ⟨_, rfl, _, rfl, a, _, (j : Int), .int ns[j], rfl, rfl, hs, atI_nat (by rw [List.getElem?_map, List.getElem?_eq_getElem hlt]; rfl), ?_⟩
      have m0 := Int.emod_nonneg (if ns[j] < 0 then -ns[j] else ns[j]) (by decide : (2147483563 : Int) ≠ 0)
      have m1 := Int.emod_lt_of_pos (if ns[j] < 0 then -ns[j] else ns[j]) (by decide : (0 : Int) < 2147483563)
      refine ⟨_, rfl, _, rfl, _, _, rfl, rfl, ⟨by decide, by decide, by decide⟩, _, _, rfl, rfl, _, _, rfl, _, rfl, _, rfl, .inl ⟨_, rfl, _, _, rfl, rfl, (by decide : (0 : Int) < 2147483563), _, _, rfl, rfl, .inr ⟨by decide, by decide⟩, _, rfl, _, _, rfl, rfl, .inl ⟨by decide, by decide⟩, _, _, rfl, rfl, _, _, rfl, rfl, .inl ⟨_, rfl, _, _, rfl, rfl, (by decide : (0 : Int) < 2147483629), _, _, rfl, rfl, (by show 2 ≤ sizeLine; decide), fun q hq => rest ns[j] _ rfl _ rfl q hq⟩⟩⟩
    · refine ⟨_, rfl, _, _, rfl, rfl, .inl ⟨by decide, by decide⟩, ?_⟩
      refine ⟨_, rfl, _, rfl, _, _, rfl, rfl, ⟨by decide, by decide, by decide⟩, _, _, rfl, rfl, _, _, rfl, _, rfl, _, rfl, .inl ⟨_, rfl, _, _, rfl, rfl, (by decide : (0 : Int) < 2147483563), _, _, rfl, rfl, .inr ⟨by decide, by decide⟩, _, rfl, _, _, rfl, rfl, .inl ⟨by decide, by decide⟩, _, _, rfl, rfl, _, _, rfl, rfl, .inl ⟨_, rfl, _, _, rfl, rfl, (by decide : (0 : Int) < 2147483629), _, _, rfl, rfl, (by show 2 ≤ sizeLine; decide), fun q hq => rest (7 * (j : Int)) _ rfl _ rfl q hq⟩⟩⟩
abbrev s__law_pick : Stmt := top 16
theorem sc__law_pick : FnScope ["_law_pot_here", "_law_some"] ["_law_pot_here", "_law_some"] (defScope s__law_pick) := ⟨rfl, rfl, rfl, by decide +kernel, rfl, by decide +kernel, by decide +kernel⟩
theorem h_law_pick (B : Blts mg) (F : FunAt K mg "_law_pick" "_law_pick" s__law_pick) (h_law_draw : Has P w K mg base "_law_draw" 1 ["_law_pot_here", "_law_many"] spDraw) : Has P w K mg base "_law_pick" 2 ["_law_pot_here", "_law_some"] (spPick K) := by
  refine has_of F sc__law_pick (fun _ _ _ _ _ _ us hl => match us, hl with | [_, _], _ => rfl) (fun vs H Q E h => ?_) (fun f cdv A outer s H vs Q E hr h => ?_)
  · obtain ⟨p, n, k, rfl, _⟩ := h
    rfl
  · obtain ⟨p, l, xs, rfl, hp, hs, hne, hx, hlen, k⟩ := h
    refine ⟨_, (pss_one (ps_ret (pe_ix ix_list (pv 1) (pe_has h_law_draw (hr.mono (by decide)) (pa_cons (pv 0) (pa_cons (pe_callB call_len (by rfl) B.n_len PySem.boot_len (pa_cons (pv 1) pa_nil)) pa_nil))) (fun _ _ => rfl)))), ?_⟩
    have h0 : 0 < xs.length := List.length_pos_iff.mpr hx
    refine ⟨_, rfl, _, rfl, _, rfl, _, xs.length, rfl, .inl ⟨_, hs, rfl⟩, p, _, rfl, hp, by omega, by omega, fun d H' d0 d1 hp' e => ?_⟩
    have dl : d.toNat < xs.length := by omega
    exact ⟨l, xs, d, xs[d.toNat], rfl, rfl, e.sq hne hs, atI_at d0 (List.getElem?_eq_getElem dl), k _ _ (List.getElem_mem dl) hp' e⟩
end
end N

set_option maxHeartbeats 4000000
namespace N
open PySem L2
/-! ### a Form -/
def ff (x y c : Int) : List (Str × V) := [("_x", .int x), ("_y", .int y), ("_constant", .int c)]
theorem nxy : ¬ (("_x" : Str) = "_y") := by decide +kernel
theorem nyx : ¬ (("_y" : Str) = "_x") := by decide +kernel
theorem nxc : ¬ (("_x" : Str) = "_constant") := by decide +kernel
theorem ncx : ¬ (("_constant" : Str) = "_x") := by decide +kernel
theorem nyc : ¬ (("_y" : Str) = "_constant") := by decide +kernel
theorem ncy : ¬ (("_constant" : Str) = "_y") := by decide +kernel
theorem ff_x (x y c : Int) : (ff x y c).lookup ("_x" : Str) = some (V.int x) := lk_hd
theorem ff_y (x y c : Int) : (ff x y c).lookup ("_y" : Str) = some (V.int y) := lk_tl nyx lk_hd
theorem ff_c (x y c : Int) : (ff x y c).lookup ("_constant" : Str) = some (V.int c) := lk_tl ncx (lk_tl ncy lk_hd)
theorem ff_no (x y c : Int) {f : Str} (h1 : ¬ f = "_x") (h2 : ¬ f = "_y") (h3 : ¬ f = "_constant") : (ff x y c).lookup f = none := lk_tl h1 (lk_tl h2 (lk_tl h3 rfl))
theorem put_y (x y : Int) : putF ("_y" : Str) (V.int y) [(("_x" : Str), V.int x)] = [(("_x" : Str), V.int x), (("_y" : Str), V.int y)] :=
  putF_new fun q hq => by cases List.mem_singleton.mp hq; exact nxy
theorem put_c (x y c : Int) : putF ("_constant" : Str) (V.int c) [(("_x" : Str), V.int x), (("_y" : Str), V.int y)] = ff x y c :=
  putF_new fun q hq => by
    rcases List.mem_cons.mp hq with e | hq
    · cases e; exact nxc
    · cases List.mem_singleton.mp hq; exact nyc
def FormAt (C : Addr) (H : Hp) (a : Addr) (x y c : Int) : Prop := ∃ dx, H a = some (.ins C dx (ff x y c))
theorem FormAt.but {C : Addr} {H H' : Hp} {a p : Addr} {x y c : Int} (h : FormAt C H a x y c) (e : But p H H') (n : a ≠ p) : FormAt C H' a x y c := let ⟨dx, h⟩ := h; ⟨dx, e _ _ h n⟩
theorem FormAt.same {C : Addr} {H H' : Hp} {a : Addr} {x y c : Int} (h : FormAt C H a x y c) (e : Same H H') : FormAt C H' a x y c := let ⟨dx, h⟩ := h; ⟨dx, e _ _ h⟩
/-- what the walk asks of the class -/
structure FormC (K : PySem.W.Frag) (mg : Str → Option Value) (C : Addr) : Prop where
  own : OwnC K C
  nX : NoAttr K C "_x"
  nY : NoAttr K C "_y"
  nC : NoAttr K C "_constant"
  g : mg "Form" = some (.ref C)
  sI : PySem.W.subIn K (.type "int") (.ref C) = some false
  sT : PySem.W.subIn K (.type "tuple") (.ref C) = some false
  sS : PySem.W.subIn K (.type "str") (.ref C) = some false
theorem FormC.cl {K : PySem.W.Frag} {mg : Str → Option Value} {C : Addr} (T : FormC K mg C) : Cls K C := T.own.cl
def spIsInt : Sp := fun vs H Q _ => ∃ i : Int, vs = [.int i] ∧ Q (.bl true) H
def spInit (C : Addr) : Sp := fun vs H Q _ => ∃ (p dx : Addr) (x y c : Int), vs = [.ref p, .int x, .int y, .int c] ∧ H p = some (.ins C dx []) ∧ ∀ H', FormAt C H' p x y c → But p H H' → Q .non H'
section
variable {P : Program} {w : World} {K : PySem.W.Frag} {mg : Str → Option Value} {base : Heap} {C : Addr}
abbrev s_is_integer : Stmt := top 1
theorem sc_is_integer : FnScope ["value"] ["value"] (defScope s_is_integer) := ⟨rfl, rfl, rfl, by decide +kernel, rfl, by decide +kernel, by decide +kernel⟩
theorem h_is_integer (B : Blts mg) (F : FunAt K mg "is_integer" "is_integer" s_is_integer) : Has P w K mg base "is_integer" 1 ["value"] spIsInt := by
  refine has_of F sc_is_integer (fun _ _ _ _ _ _ us hl => match us, hl with | [_], _ => rfl) (fun vs H Q E h => ?_) (fun f cdv A outer s H vs Q E hr h => ?_)
  · obtain ⟨i, rfl, _⟩ := h
    rfl
  · obtain ⟨i, rfl, k⟩ := h
    refine ⟨_, (pss_one (ps_ret (pe_and (pe_callB call_isi (by rfl) B.n_isinstance (by decide +kernel) (pa_cons (pv 0) (pa_cons (pe_bltn (v := .ty "int") (u := .type "int") rfl B.n_int (by decide +kernel) rfl) pa_nil))) (pe_one (pe_not (pe_callB call_isi (by rfl) B.n_isinstance (by decide +kernel) (pa_cons (pv 0) (pa_cons (pe_bltn (v := .ty "bool") (u := .type "bool") rfl B.n_bool (by decide +kernel) rfl) pa_nil)))))))), ?_⟩
    refine ⟨_, rfl, _, _, _, _, true, rfl, .ty _, .base (.int i), kit_self, true, rfl, ?_⟩
    refine iteT ?_
    exact ⟨_, rfl, _, _, _, _, false, rfl, .ty _, .base (.int i), kit_ty (by decide +kernel), false, rfl, k⟩
abbrev s_Form___init__ : Stmt := inClass (top 7) 0
theorem sc_FormD_initD : FnScope ["self", "x", "y", "constant", "number"] ["self", "x", "y", "constant"] (defScope s_Form___init__) := ⟨rfl, rfl, rfl, by decide +kernel, rfl, by decide +kernel, by decide +kernel⟩
theorem ok_init {f : Addr} {fd : FuncData} (B : Blts mg) (T : FormC K mg C) (F : FunD K "__init__" "Form.__init__" (defArgs s_Form___init__) (defBody s_Form___init__) (defScope s_Form___init__) [.int 0, .int 0, .int 0] [] f fd)
    (his_integer : Has P w K mg base "is_integer" 1 ["value"] spIsInt) : FnOk P w K mg base CX0 2 f fd ["self", "x", "y", "constant"] (spInit C) := by
  refine F.ok sc_FormD_initD (fun vs H Q E h => ?_) (fun cdv A outer s H vs Q E hr h => ?_)
  · obtain ⟨p, dx, x, y, c, rfl, _⟩ := h
    rfl
  · obtain ⟨p, dx, x, y, c, rfl, hp, k⟩ := h
    refine ⟨_, PSs.nox (pss_cons (ps_for PassesOwn.never rfl (pi_tup (pe_tup (pa_cons (pv 1) (pa_cons (pv 2) (pa_cons (pv 3) pa_nil))))) (pg_name (i := 4) sc_FormD_initD.nd rfl (Or.inl rfl))
        (pss_one (ps_if (pt_not (pt_val (pe_has his_integer (hr.mono (by decide)) (pa_cons (pv 4) pa_nil)))) (pss_one ps_never)
          pss_nil)))
      (pss_cons (ps_fld (pv 0) (pv 1) rfl)
      (pss_cons (ps_fld (pv 0) (pv 2) rfl)
      (pss_one (ps_fld (pv 0) (pv 3) rfl))))), ?_⟩
    refine ⟨_, rfl, _, rfl, _, rfl, (by show 3 ≤ sizeLine; decide), fun t ht => ?_⟩
    have npt : p ≠ t := ne_of_none hp ht
    refine ⟨t, rfl, ⟨_, SqT.of upd_same⟩, for_tup (K := K) (a := t) (xs := [.int x, .int y, .int c]) (fun i σ H2 => ∃ v : Option V, σ = [some (.ref p), some (.int x), some (.int y), some (.int c), v] ∧ H2 = upd H t (.tup [.int x, .int y, .int c])) ⟨none, rfl, rfl⟩ (fun i σ H2 _ ⟨_, _, e⟩ => by rw [e]; exact SqT.of upd_same) ?_ ?_⟩
    · rintro i y' σ H2 hi ⟨v, rfl, rfl⟩
      obtain ⟨z, rfl⟩ : ∃ z, y' = V.int z := by
        match i, hi with
        | 0, hi => exact ⟨_, (Option.some.inj hi).symm⟩
        | 1, hi => exact ⟨_, (Option.some.inj hi).symm⟩
        | 2, hi => exact ⟨_, (Option.some.inj hi).symm⟩
        | n + 3, hi => simp at hi
      refine ⟨_, rfl, z, rfl, true, rfl, ?_⟩
      refine iteF ?_
      exact ⟨_, rfl, rfl⟩
    · rintro σ H2 ⟨v, rfl, rfl⟩
      refine ⟨_, rfl, _, rfl, p, C, dx, [], rfl, (by rw [upd_ne npt]; exact hp), T.cl, T.nX, (by show 0 < 1000; decide), ?_⟩
      refine ⟨_, rfl, _, rfl, p, C, dx, _, rfl, upd_same, T.cl, T.nY, (by show 1 < 1000; decide), ?_⟩
      refine ⟨_, rfl, _, rfl, p, C, dx, _, rfl, upd_same, T.cl, T.nC, ?_, ?_⟩
      · rw [show putF ("_x" : Str) (V.int x) [] = [(("_x" : Str), V.int x)] from rfl, put_y]
        show 2 < 1000
        decide
      · refine k _ ⟨dx, ?_⟩ ?_
        · refine Eq.trans upd_same ?_
          rw [show putF ("_x" : Str) (V.int x) [] = [(("_x" : Str), V.int x)] from rfl, put_y, put_c]
        · exact (((But.new ht).trans But.upd).trans But.upd).trans But.upd
end
end N

set_option maxHeartbeats 4000000
namespace N
open PySem L2
theorem made {C : Addr} {H1 : Hp} {Q : VK} {E : XK} {x y c : Int} (k : ∀ a H', H1 a = none → FormAt C H' a x y c → Same H1 H' → Q (.ref a) H') : ∀ p dx, H1 p = none → H1 dx = none → dx ≠ p →
    spInit C [.ref p, .int x, .int y, .int c] (upd (upd H1 dx (.own p)) p (.ins C dx [])) (fun v H2 => v = .non ∧ Q (.ref p) H2) E := fun p dx np nd ne =>
  ⟨p, dx, x, y, c, rfl, upd_same, fun H' hf e => ⟨rfl, k p H' np hf fun b o hb => e b o (by rw [upd_ne (ne_of_none hb np), upd_ne (ne_of_none hb nd)]; exact hb) (ne_of_none hb np)⟩⟩
def Bd (n : Nat) (i : Int) : Prop := i.natAbs < 2 ^ n
theorem Bd.mono {n m : Nat} {i : Int} (h : Bd n i) (k : n ≤ m) : Bd m i := Nat.lt_of_lt_of_le h (Nat.pow_le_pow_right (by decide) k)
theorem Bd.add {n : Nat} {i j : Int} (h : Bd n i) (k : Bd n j) : Bd (n + 1) (i + j) := by
  have := Int.natAbs_add_le i j
  unfold Bd at *
  rw [Nat.pow_succ]
  omega
theorem Bd.neg {n : Nat} {i : Int} (h : Bd n i) : Bd n (-i) := by
  unfold Bd at *
  rwa [Int.natAbs_neg]
theorem Bd.sub {n : Nat} {i j : Int} (h : Bd n i) (k : Bd n j) : Bd (n + 1) (i - j) := by
  have := h.add k.neg
  rwa [← Int.sub_eq_add_neg] at this
theorem Bd.mul {n m : Nat} {i j : Int} (h : Bd n i) (k : Bd m j) : Bd (n + m) (i * j) := by
  unfold Bd at *
  rw [Int.natAbs_mul, Nat.pow_add]
  exact Nat.mul_lt_mul'' h k
theorem Bd.log {n : Nat} {i : Int} (h : Bd n i) (h0 : 0 < n) (k : n ≤ 1920) : i.natAbs.log2 < 1920 := Nat.lt_of_lt_of_le (PySem.Flt.log2_lt_of h0 h) k
theorem Bd.w {n m : Nat} {i j : Int} (h : Bd n i) (k : Bd m j) (h0 : 0 < n) (h1 : 0 < m) (hs : n + m ≤ 1000000) : CMulW i j := wide_mul h k h0 h1 hs
theorem Bd.zero {n : Nat} : Bd n 0 := Nat.pow_pos (by decide)
/-! ### promises -/
def spGet (C : Addr) (sel : Int → Int → Int → V) : Sp := fun vs H Q _ => ∃ (a : Addr) (x y c : Int), vs = [.ref a] ∧ FormAt C H a x y c ∧ Q (sel x y c) H
def spAsForm (C : Addr) : Sp := fun vs H Q _ => (∃ (a : Addr) (x y c : Int), vs = [.ref a] ∧ FormAt C H a x y c ∧ Q (.ref a) H) ∨ ∃ n : Int, vs = [.int n] ∧ ∀ a H', H a = none → FormAt C H' a 0 0 n → Same H H' → Q (.ref a) H'
def spBin (C : Addr) (g : Int → Int → Int) : Sp := fun vs H Q _ => ∃ (a : Addr) (o : V) (x y c x' y' c' : Int), vs = [.ref a, o] ∧ FormAt C H a x y c ∧ ((∃ b, o = .ref b ∧ FormAt C H b x' y' c') ∨ (o = .int c' ∧ x' = 0 ∧ y' = 0)) ∧
  ∀ r H', H r = none → FormAt C H' r (g x x') (g y y') (g c c') → Same H H' → Q (.ref r) H'
def spMul (C : Addr) : Sp := fun vs H Q _ => ∃ (a : Addr) (x y c n : Int), vs = [.ref a, .int n] ∧ FormAt C H a x y c ∧ Bd 1000 x ∧ Bd 1000 y ∧ Bd 1000 c ∧ Bd 1000 n ∧ ∀ r H', H r = none → FormAt C H' r (x * n) (y * n) (c * n) → Same H H' → Q (.ref r) H'
def spNeg (C : Addr) : Sp := fun vs H Q _ => ∃ (a : Addr) (x y c : Int), vs = [.ref a] ∧ FormAt C H a x y c ∧ ∀ r H', H r = none → FormAt C H' r (-x) (-y) (-c) → Same H H' → Q (.ref r) H'
def spNums (C : Addr) : Sp := fun vs H Q _ => ∃ (a : Addr) (x y c : Int), vs = [.ref a] ∧ FormAt C H a x y c ∧ ∀ t, H t = none → Q (.ref t) (upd H t (.tup [.int x, .int y, .int c]))
section
variable {P : Program} {w : World} {K : PySem.W.Frag} {mg : Str → Option Value} {base : Heap} {C : Addr}
theorem get_len {sel : Int → Int → Int → V} : ∀ (vs : List V) (H : Hp) (Q : VK) (E : XK), spGet C sel vs H Q E → vs.length = (["self"] : List Str).length := fun vs H Q E ⟨_, _, _, _, e, _⟩ => by rw [e]; rfl
abbrev s_Form_x : Stmt := inClass (top 7) 1
theorem sc_Form_x : FnScope ["self"] ["self"] (defScope s_Form_x) := ⟨rfl, rfl, rfl, by decide +kernel, rfl, by decide +kernel, by decide +kernel⟩
theorem p_x (T : FormC K mg C) (F : PropAt K C "x" "Form.x" s_Form_x) : HasP P w K mg base C "x" 1 (spGet C fun x _ _ => .int x) := by
  refine hasP_of F sc_Form_x (fun _ _ _ _ _ _ us hl => match us, hl with | [_], _ => rfl) get_len (fun f cdv A outer s H vs Q E hr h => ?_)
  obtain ⟨a, x, y, c, rfl, ⟨dx, ha⟩, q⟩ := h
  refine ⟨_, (pss_one (ps_ret (pe_fld (pv 0) rfl))), ?_⟩
  exact ⟨_, rfl, a, C, dx, _, _, rfl, ha, T.cl, T.nX, ff_x _ _ _, q⟩
abbrev s_Form_y : Stmt := inClass (top 7) 2
theorem sc_Form_y : FnScope ["self"] ["self"] (defScope s_Form_y) := ⟨rfl, rfl, rfl, by decide +kernel, rfl, by decide +kernel, by decide +kernel⟩
theorem p_y (T : FormC K mg C) (F : PropAt K C "y" "Form.y" s_Form_y) : HasP P w K mg base C "y" 1 (spGet C fun _ y _ => .int y) := by
  refine hasP_of F sc_Form_y (fun _ _ _ _ _ _ us hl => match us, hl with | [_], _ => rfl) get_len (fun f cdv A outer s H vs Q E hr h => ?_)
  obtain ⟨a, x, y, c, rfl, ⟨dx, ha⟩, q⟩ := h
  refine ⟨_, (pss_one (ps_ret (pe_fld (pv 0) rfl))), ?_⟩
  exact ⟨_, rfl, a, C, dx, _, _, rfl, ha, T.cl, T.nY, ff_y _ _ _, q⟩
abbrev s_Form_constant : Stmt := inClass (top 7) 3
theorem sc_Form_constant : FnScope ["self"] ["self"] (defScope s_Form_constant) := ⟨rfl, rfl, rfl, by decide +kernel, rfl, by decide +kernel, by decide +kernel⟩
theorem p_constant (T : FormC K mg C) (F : PropAt K C "constant" "Form.constant" s_Form_constant) : HasP P w K mg base C "constant" 1 (spGet C fun _ _ c => .int c) := by
  refine hasP_of F sc_Form_constant (fun _ _ _ _ _ _ us hl => match us, hl with | [_], _ => rfl) get_len (fun f cdv A outer s H vs Q E hr h => ?_)
  obtain ⟨a, x, y, c, rfl, ⟨dx, ha⟩, q⟩ := h
  refine ⟨_, (pss_one (ps_ret (pe_fld (pv 0) rfl))), ?_⟩
  exact ⟨_, rfl, a, C, dx, _, _, rfl, ha, T.cl, T.nC, ff_c _ _ _, q⟩
abbrev s_Form_is_number : Stmt := inClass (top 7) 4
theorem sc_Form_is_number : FnScope ["self"] ["self"] (defScope s_Form_is_number) := ⟨rfl, rfl, rfl, by decide +kernel, rfl, by decide +kernel, by decide +kernel⟩
theorem p_is_number (T : FormC K mg C) (F : PropAt K C "is_number" "Form.is_number" s_Form_is_number) : HasP P w K mg base C "is_number" 1 (spGet C fun x y _ => .bl (decide (x = 0) && decide (y = 0))) := by
  refine hasP_of F sc_Form_is_number (fun _ _ _ _ _ _ us hl => match us, hl with | [_], _ => rfl) get_len (fun f cdv A outer s H vs Q E hr h => ?_)
  obtain ⟨a, x, y, c, rfl, ⟨dx, ha⟩, q⟩ := h
  refine ⟨_, (pss_one (ps_ret (pe_and (pe_cmpR op_eq (pe_fld (pv 0) rfl) pe_int (by first | exact nomark _ | rfl)) (pe_one (pe_cmpR op_eq (pe_fld (pv 0) rfl) pe_int (by first | exact nomark _ | rfl)))))), ?_⟩
  refine ⟨_, rfl, a, C, dx, _, _, rfl, ha, T.cl, T.nX, ff_x _ _ _, rfl, _, rfl, ?_⟩
  have e1 : decide (V.int x = V.int 0) = decide (x = 0) := by rw [Bool.eq_iff_iff]; simp
  have e2 : decide (V.int y = V.int 0) = decide (y = 0) := by rw [Bool.eq_iff_iff]; simp
  rw [e1]
  cases hx : decide (x = 0) with
  | true =>
    refine iteT ?_
    refine ⟨_, rfl, a, C, dx, _, _, rfl, ha, T.cl, T.nY, ff_y _ _ _, rfl, ?_⟩
    rw [e2]
    have q' := q
    simp only [hx, Bool.true_and] at q'
    exact q'
  | false =>
    refine iteF ?_
    have q' := q
    simp only [hx, Bool.false_and] at q'
    exact q'
abbrev s__as_form : Stmt := top 8
theorem sc__as_form : FnScope ["value"] ["value"] (defScope s__as_form) := ⟨rfl, rfl, rfl, by decide +kernel, rfl, by decide +kernel, by decide +kernel⟩
theorem h_as_form (B : Blts mg) (T : FormC K mg C) (F : FunAt K mg "_as_form" "_as_form" s__as_form) (his_integer : Has P w K mg base "is_integer" 1 ["value"] spIsInt) (hForm : HasK P w K mg base "Form" C 2 ["self", "x", "y", "constant"] (spInit C) []) : Has P w K mg base "_as_form" 4 ["value"] (spAsForm C) := by
  refine has_of F sc__as_form (fun _ _ _ _ _ _ us hl => match us, hl with | [_], _ => rfl) (fun vs H Q E h => ?_) (fun f cdv A outer s H vs Q E hr h => ?_)
  · rcases h with ⟨_, _, _, _, rfl, _⟩ | ⟨_, rfl, _⟩ <;> rfl
  · refine ⟨_, (pss_cons (ps_if (pt_val (pe_callB call_isi (by rfl) B.n_isinstance (by decide +kernel) (pa_cons (pv 0) (pa_cons (pe_glob (v := .ref C) rfl T.g rfl) pa_nil)))) (pss_one (ps_ret (pv 0)))
        pss_nil)
      (pss_cons (ps_if (pt_not (pt_val (pe_has his_integer (hr.mono (by decide)) (pa_cons (pv 0) pa_nil)))) (pss_one ps_never)
        pss_nil)
      (pss_one (ps_ret (pe_hasK hForm (hr.mono (by decide)) (pa_cons pe_int (pa_cons pe_int (pa_cons (pv 0) pa_nil)))))))), ?_⟩
    rcases h with ⟨a, x, y, c, rfl, ⟨dx, ha⟩, q⟩ | ⟨n, rfl, k⟩
    · refine ⟨_, rfl, _, _, _, _, true, rfl, .own C, T.own.ty ha, kit_self, true, rfl, ?_⟩
      refine iteT ?_
      exact ⟨_, rfl, q⟩
    · refine ⟨_, rfl, _, _, _, _, false, rfl, .own C, .base (.int n), T.own.kit T.sI, false, rfl, ?_⟩
      refine iteF ?_
      refine ⟨_, rfl, n, rfl, true, rfl, ?_⟩
      refine iteF ?_
      exact ⟨_, rfl, made k⟩
abbrev s__numbers_of : Stmt := top 9
theorem sc__numbers_of : FnScope ["form"] ["form"] (defScope s__numbers_of) := ⟨rfl, rfl, rfl, by decide +kernel, rfl, by decide +kernel, by decide +kernel⟩
theorem h_numbers_of (T : FormC K mg C) (F : FunAt K mg "_numbers_of" "_numbers_of" s__numbers_of) (px : HasP P w K mg base C "x" 1 (spGet C fun x _ _ => .int x)) (py : HasP P w K mg base C "y" 1 (spGet C fun _ y _ => .int y))
    (pc : HasP P w K mg base C "constant" 1 (spGet C fun _ _ c => .int c)) : Has P w K mg base "_numbers_of" 3 ["form"] (spNums C) := by
  refine has_of F sc__numbers_of (fun _ _ _ _ _ _ us hl => match us, hl with | [_], _ => rfl) (fun vs H Q E h => ?_) (fun f cdv A outer s H vs Q E hr h => ?_)
  · obtain ⟨_, _, _, _, rfl, _⟩ := h
    rfl
  · obtain ⟨a, x, y, c, rfl, hf, k⟩ := h
    obtain ⟨dx, ha⟩ := id hf
    refine ⟨_, (pss_one (ps_ret (pe_tup (pa_cons (pe_hasP px T.cl (hr.mono (by decide)) (pv 0)) (pa_cons (pe_hasP py T.cl (hr.mono (by decide)) (pv 0)) (pa_cons (pe_hasP pc T.cl (hr.mono (by decide)) (pv 0)) pa_nil)))))), ?_⟩
    exact ⟨_, rfl, a, dx, _, rfl, ha, a, x, y, c, rfl, hf, _, rfl, a, dx, _, rfl, ha, a, x, y, c, rfl, hf, _, rfl, a, dx, _, rfl, ha, a, x, y, c, rfl, hf, (by show 3 ≤ sizeLine; decide), k⟩
end
end N

set_option maxHeartbeats 4000000
namespace N
open PySem L2
abbrev PX (P : Program) (w : World) (K : PySem.W.Frag) (mg : Str → Option Value) (base : Heap) (C : Addr) : Prop := HasP P w K mg base C "x" 1 (spGet C fun x _ _ => .int x)
abbrev PY (P : Program) (w : World) (K : PySem.W.Frag) (mg : Str → Option Value) (base : Heap) (C : Addr) : Prop := HasP P w K mg base C "y" 1 (spGet C fun _ y _ => .int y)
abbrev PC' (P : Program) (w : World) (K : PySem.W.Frag) (mg : Str → Option Value) (base : Heap) (C : Addr) : Prop := HasP P w K mg base C "constant" 1 (spGet C fun _ _ c => .int c)
abbrev HI (P : Program) (w : World) (K : PySem.W.Frag) (mg : Str → Option Value) (base : Heap) : Prop := Has P w K mg base "is_integer" 1 ["value"] spIsInt
abbrev HF (P : Program) (w : World) (K : PySem.W.Frag) (mg : Str → Option Value) (base : Heap) (C : Addr) (dvs : List V) : Prop := HasK P w K mg base "Form" C 2 ["self", "x", "y", "constant"] (spInit C) dvs
def spEq (K : PySem.W.Frag) (C : Addr) : Sp := fun vs H Q _ => ∃ (a : Addr) (o : V) (x y c : Int), vs = [.ref a, o] ∧ FormAt C H a x y c ∧
  ((∃ b x' y' c', o = .ref b ∧ FormAt C H b x' y' c' ∧ ∀ H', Same H H' → Q (.bl (decide (x = x' ∧ y = y' ∧ c = c'))) H') ∨ ∃ T, TyX K H o (.type T) ∧ PySem.W.subIn K (.type T) (.ref C) = some false ∧ Q (.bl false) H)
def spAt (C : Addr) : Sp := fun vs H Q _ => ∃ (a : Addr) (x y c u v : Int), vs = [.ref a, .int u, .int v] ∧ FormAt C H a x y c ∧ Bd 1000 x ∧ Bd 1000 y ∧ Bd 1000 u ∧ Bd 1000 v ∧ ∀ H', Same H H' → Q (.int (x * u + y * v + c)) H'
def spPut (C : Addr) : Sp := fun vs H Q _ => ∃ (a b d : Addr) (x y c x1 y1 c1 x2 y2 c2 : Int), vs = [.ref a, .ref b, .ref d] ∧ FormAt C H a x y c ∧ FormAt C H b x1 y1 c1 ∧ FormAt C H d x2 y2 c2 ∧ Bd 1000 x ∧ Bd 1000 y ∧ Bd 1000 x1 ∧ Bd 1000 y1 ∧ Bd 1000 c1 ∧ Bd 1000 x2 ∧ Bd 1000 y2 ∧ Bd 1000 c2 ∧
  ∀ r H', H r = none → FormAt C H' r (x1 * x + x2 * y) (y1 * x + y2 * y) (c1 * x + c2 * y + c) → Same H H' → Q (.ref r) H'
theorem same_but {H H' H2 : Hp} {p : Addr} (s : Same H H') (e : But p H' H2) (hp : H p = none) : Same H H2 := fun b o h => e b o (s b o h) (ne_of_none h hp)
section
variable {P : Program} {w : World} {K : PySem.W.Frag} {mg : Str → Option Value} {base : Heap} {C : Addr}
abbrev s_Form___add__ : Stmt := inClass (top 7) 7
theorem sc_FormD_addD : FnScope ["self", "other", "right"] ["self", "other"] (defScope s_Form___add__) := ⟨rfl, rfl, rfl, by decide +kernel, rfl, by decide +kernel, by decide +kernel⟩
theorem m_add (T : FormC K mg C) (F : MethAt K C "__add__" "Form.__add__" s_Form___add__) (h_as_form : Has P w K mg base "_as_form" 4 ["value"] (spAsForm C)) (px : PX P w K mg base C) (py : PY P w K mg base C) (pc : PC' P w K mg base C) (hForm : HF P w K mg base C []) :
    HasM P w K mg base C "__add__" 5 ["self", "other"] (spBin C (· + ·)) := by
  refine hasM_of F sc_FormD_addD (fun _ _ _ _ _ _ us hl => match us, hl with | [_, _], _ => rfl) (fun vs H Q E h => ?_) (fun f cdv A outer s H vs Q E hr h => ?_)
  · obtain ⟨_, _, _, _, _, _, _, _, rfl, _⟩ := h
    rfl
  · obtain ⟨a, o, x, y, c, x', y', c', rfl, hf, ho, k⟩ := h
    refine ⟨_, (pss_cons (ps_set (i := 2) sc_FormD_addD.nd rfl (Or.inl rfl) (pe_has h_as_form (hr.mono (by decide)) (pa_cons (pv 1) pa_nil)))
      (pss_one (ps_ret (pe_hasK hForm (hr.mono (by decide)) (pa_cons (pe_op op_add (pe_fld (pv 0) rfl) (pe_hasP px T.cl (hr.mono (by decide)) (pv 2))) (pa_cons (pe_op op_add (pe_fld (pv 0) rfl) (pe_hasP py T.cl (hr.mono (by decide)) (pv 2))) (pa_cons (pe_op op_add (pe_fld (pv 0) rfl) (pe_hasP pc T.cl (hr.mono (by decide)) (pv 2))) pa_nil))))))), ?_⟩
    have rest : ∀ b H1, Same H H1 → FormAt C H1 b x' y' c' → tRet (tMake C (spInit C) [] E0 (tCons (tOp (rI0 fun i j => .int (i + j)) (tFld K (tVar 0) "_x") (tProp C (spGet C fun x _ _ => .int x) [] E0 (tVar 2))) (tCons (tOp (rI0 fun i j => .int (i + j)) (tFld K (tVar 0) "_y") (tProp C (spGet C fun _ y _ => .int y) [] E0 (tVar 2))) (tCons (tOp (rI0 fun i j => .int (i + j)) (tFld K (tVar 0) "_constant") (tProp C (spGet C fun _ _ c => .int c) [] E0 (tVar 2))) tNil)))) { nx := fun _ H' => Q .non H', rt := Q } ((start ["self", "other", "right"] [.ref a, o]).set 2 (some (.ref b))) H1 := by
      intro b H1 s1 hb
      obtain ⟨dx, ha⟩ := hf.same s1
      obtain ⟨db, hb'⟩ := id hb
      refine ⟨_, rfl, a, C, dx, _, _, rfl, ha, T.cl, T.nX, ff_x _ _ _, _, rfl, b, db, _, rfl, hb', b, x', y', c', rfl, hb, _, _, rfl, rfl, ?_⟩
      refine ⟨_, rfl, a, C, dx, _, _, rfl, ha, T.cl, T.nY, ff_y _ _ _, _, rfl, b, db, _, rfl, hb', b, x', y', c', rfl, hb, _, _, rfl, rfl, ?_⟩
      refine ⟨_, rfl, a, C, dx, _, _, rfl, ha, T.cl, T.nC, ff_c _ _ _, _, rfl, b, db, _, rfl, hb', b, x', y', c', rfl, hb, _, _, rfl, rfl, ?_⟩
      exact made fun r H' hr' hF s2 => k r H' (s1.free hr') hF (s1.trans s2)
    rcases ho with ⟨b, rfl, hb⟩ | ⟨rfl, rfl, rfl⟩
    · exact ⟨_, rfl, .inl ⟨b, _, _, _, rfl, hb, rest b H (Same.refl H) hb⟩⟩
    · exact ⟨_, rfl, .inr ⟨c', rfl, fun b H1 _ hb s1 => rest b H1 s1 hb⟩⟩
abbrev s_Form___sub__ : Stmt := inClass (top 7) 8
theorem sc_FormD_subD : FnScope ["self", "other", "right"] ["self", "other"] (defScope s_Form___sub__) := ⟨rfl, rfl, rfl, by decide +kernel, rfl, by decide +kernel, by decide +kernel⟩
theorem m_sub (T : FormC K mg C) (F : MethAt K C "__sub__" "Form.__sub__" s_Form___sub__) (h_as_form : Has P w K mg base "_as_form" 4 ["value"] (spAsForm C)) (px : PX P w K mg base C) (py : PY P w K mg base C) (pc : PC' P w K mg base C) (hForm : HF P w K mg base C []) :
    HasM P w K mg base C "__sub__" 5 ["self", "other"] (spBin C (· - ·)) := by
  refine hasM_of F sc_FormD_subD (fun _ _ _ _ _ _ us hl => match us, hl with | [_, _], _ => rfl) (fun vs H Q E h => ?_) (fun f cdv A outer s H vs Q E hr h => ?_)
  · obtain ⟨_, _, _, _, _, _, _, _, rfl, _⟩ := h
    rfl
  · obtain ⟨a, o, x, y, c, x', y', c', rfl, hf, ho, k⟩ := h
    refine ⟨_, (pss_cons (ps_set (i := 2) sc_FormD_subD.nd rfl (Or.inl rfl) (pe_has h_as_form (hr.mono (by decide)) (pa_cons (pv 1) pa_nil)))
      (pss_one (ps_ret (pe_hasK hForm (hr.mono (by decide)) (pa_cons (pe_op op_sub (pe_fld (pv 0) rfl) (pe_hasP px T.cl (hr.mono (by decide)) (pv 2))) (pa_cons (pe_op op_sub (pe_fld (pv 0) rfl) (pe_hasP py T.cl (hr.mono (by decide)) (pv 2))) (pa_cons (pe_op op_sub (pe_fld (pv 0) rfl) (pe_hasP pc T.cl (hr.mono (by decide)) (pv 2))) pa_nil))))))), ?_⟩
    have rest : ∀ b H1, Same H H1 → FormAt C H1 b x' y' c' → tRet (tMake C (spInit C) [] E0 (tCons (tOp (rI0 fun i j => .int (i - j)) (tFld K (tVar 0) "_x") (tProp C (spGet C fun x _ _ => .int x) [] E0 (tVar 2))) (tCons (tOp (rI0 fun i j => .int (i - j)) (tFld K (tVar 0) "_y") (tProp C (spGet C fun _ y _ => .int y) [] E0 (tVar 2))) (tCons (tOp (rI0 fun i j => .int (i - j)) (tFld K (tVar 0) "_constant") (tProp C (spGet C fun _ _ c => .int c) [] E0 (tVar 2))) tNil)))) { nx := fun _ H' => Q .non H', rt := Q } ((start ["self", "other", "right"] [.ref a, o]).set 2 (some (.ref b))) H1 := by
      intro b H1 s1 hb
      obtain ⟨dx, ha⟩ := hf.same s1
      obtain ⟨db, hb'⟩ := id hb
      refine ⟨_, rfl, a, C, dx, _, _, rfl, ha, T.cl, T.nX, ff_x _ _ _, _, rfl, b, db, _, rfl, hb', b, x', y', c', rfl, hb, _, _, rfl, rfl, ?_⟩
      refine ⟨_, rfl, a, C, dx, _, _, rfl, ha, T.cl, T.nY, ff_y _ _ _, _, rfl, b, db, _, rfl, hb', b, x', y', c', rfl, hb, _, _, rfl, rfl, ?_⟩
      refine ⟨_, rfl, a, C, dx, _, _, rfl, ha, T.cl, T.nC, ff_c _ _ _, _, rfl, b, db, _, rfl, hb', b, x', y', c', rfl, hb, _, _, rfl, rfl, ?_⟩
      exact made fun r H' hr' hF s2 => k r H' (s1.free hr') hF (s1.trans s2)
    rcases ho with ⟨b, rfl, hb⟩ | ⟨rfl, rfl, rfl⟩
    · exact ⟨_, rfl, .inl ⟨b, _, _, _, rfl, hb, rest b H (Same.refl H) hb⟩⟩
    · exact ⟨_, rfl, .inr ⟨c', rfl, fun b H1 _ hb s1 => rest b H1 s1 hb⟩⟩
abbrev s_Form___mul__ : Stmt := inClass (top 7) 9
theorem sc_FormD_mulD : FnScope ["self", "other"] ["self", "other"] (defScope s_Form___mul__) := ⟨rfl, rfl, rfl, by decide +kernel, rfl, by decide +kernel, by decide +kernel⟩
theorem m_mul (T : FormC K mg C) (F : MethAt K C "__mul__" "Form.__mul__" s_Form___mul__) (his_integer : HI P w K mg base) (hForm : HF P w K mg base C []) :
    HasM P w K mg base C "__mul__" 4 ["self", "other"] (spMul C) := by
  refine hasM_of F sc_FormD_mulD (fun _ _ _ _ _ _ us hl => match us, hl with | [_, _], _ => rfl) (fun vs H Q E h => ?_) (fun f cdv A outer s H vs Q E hr h => ?_)
  · obtain ⟨_, _, _, _, _, rfl, _⟩ := h
    rfl
  · obtain ⟨a, x, y, c, n, rfl, ⟨dx, ha⟩, bx, b_y, bc, bn, k⟩ := h
    refine ⟨_, (pss_cons (ps_if (pt_not (pt_val (pe_has his_integer (hr.mono (by decide)) (pa_cons (pv 1) pa_nil)))) (pss_one ps_never)
        pss_nil)
      (pss_one (ps_ret (pe_hasK hForm (hr.mono (by decide)) (pa_cons (pe_op op_mulW (pe_fld (pv 0) rfl) (pv 1)) (pa_cons (pe_op op_mulW (pe_fld (pv 0) rfl) (pv 1)) (pa_cons (pe_op op_mulW (pe_fld (pv 0) rfl) (pv 1)) pa_nil))))))), ?_⟩
    refine ⟨_, rfl, n, rfl, true, rfl, ?_⟩
    refine iteF ?_
    refine ⟨_, rfl, a, C, dx, _, _, rfl, ha, T.cl, T.nX, ff_x _ _ _, _, rfl, _, _, rfl, rfl, bx.w bn (by decide) (by decide) (by decide), ?_⟩
    refine ⟨_, rfl, a, C, dx, _, _, rfl, ha, T.cl, T.nY, ff_y _ _ _, _, rfl, _, _, rfl, rfl, b_y.w bn (by decide) (by decide) (by decide), ?_⟩
    refine ⟨_, rfl, a, C, dx, _, _, rfl, ha, T.cl, T.nC, ff_c _ _ _, _, rfl, _, _, rfl, rfl, bc.w bn (by decide) (by decide) (by decide), ?_⟩
    exact made k
abbrev s_Form___neg__ : Stmt := inClass (top 7) 10
theorem sc_FormD_negD : FnScope ["self"] ["self"] (defScope s_Form___neg__) := ⟨rfl, rfl, rfl, by decide +kernel, rfl, by decide +kernel, by decide +kernel⟩
theorem m_neg (T : FormC K mg C) (F : MethAt K C "__neg__" "Form.__neg__" s_Form___neg__) (hForm : HF P w K mg base C []) : HasM P w K mg base C "__neg__" 4 ["self"] (spNeg C) := by
  refine hasM_of F sc_FormD_negD (fun _ _ _ _ _ _ us hl => match us, hl with | [_], _ => rfl) (fun vs H Q E h => ?_) (fun f cdv A outer s H vs Q E hr h => ?_)
  · obtain ⟨_, _, _, _, rfl, _⟩ := h
    rfl
  · obtain ⟨a, x, y, c, rfl, ⟨dx, ha⟩, k⟩ := h
    refine ⟨_, (pss_one (ps_ret (pe_hasK hForm (hr.mono (by decide)) (pa_cons (pe_un un_neg (pe_fld (pv 0) rfl)) (pa_cons (pe_un un_neg (pe_fld (pv 0) rfl)) (pa_cons (pe_un un_neg (pe_fld (pv 0) rfl)) pa_nil)))))), ?_⟩
    refine ⟨_, rfl, a, C, dx, _, _, rfl, ha, T.cl, T.nX, ff_x _ _ _, _, rfl, ?_⟩
    refine ⟨_, rfl, a, C, dx, _, _, rfl, ha, T.cl, T.nY, ff_y _ _ _, _, rfl, ?_⟩
    refine ⟨_, rfl, a, C, dx, _, _, rfl, ha, T.cl, T.nC, ff_c _ _ _, _, rfl, ?_⟩
    exact made k
abbrev s_Form___eq__ : Stmt := inClass (top 7) 11
theorem sc_FormD_eqD : FnScope ["self", "other"] ["self", "other"] (defScope s_Form___eq__) := ⟨rfl, rfl, rfl, by decide +kernel, rfl, by decide +kernel, by decide +kernel⟩
theorem eqv3 (x y c x' y' c' : Int) : PyData.eqv (.tuple [.int x, .int y, .int c]) (.tuple [.int x', .int y', .int c']) = decide (x = x' ∧ y = y' ∧ c = c') := by
  show (x == x' && (y == y' && (c == c' && true))) = _
  rw [Bool.eq_iff_iff]
  simp
theorem m_eq (B : Blts mg) (T : FormC K mg C) (F : MethAt K C "__eq__" "Form.__eq__" s_Form___eq__) (h_numbers_of : Has P w K mg base "_numbers_of" 3 ["form"] (spNums C)) : HasM P w K mg base C "__eq__" 4 ["self", "other"] (spEq K C) := by
  refine hasM_of F sc_FormD_eqD (fun _ _ _ _ _ _ us hl => match us, hl with | [_, _], _ => rfl) (fun vs H Q E h => ?_) (fun f cdv A outer s H vs Q E hr h => ?_)
  · obtain ⟨_, _, _, _, _, rfl, _⟩ := h
    rfl
  · obtain ⟨a, o, x, y, c, rfl, hf, ho⟩ := h
    refine ⟨_, (pss_one (ps_ret (pe_and (pe_callB call_isi (by rfl) B.n_isinstance (by decide +kernel) (pa_cons (pv 1) (pa_cons (pe_glob (v := .ref C) rfl T.g rfl) pa_nil))) (pe_one (pe_cmpR (op_eqD hr.units) (pe_has h_numbers_of (hr.mono (by decide)) (pa_cons (pv 0) pa_nil)) (pe_has h_numbers_of (hr.mono (by decide)) (pa_cons (pv 1) pa_nil)) (by first | exact nomark _ | rfl)))))), ?_⟩
    rcases ho with ⟨b, x', y', c', rfl, hb, k⟩ | ⟨T', hT, hs, q⟩
    · obtain ⟨db, hb'⟩ := id hb
      refine ⟨_, rfl, _, _, _, _, true, rfl, .own C, T.own.ty hb', kit_self, true, rfl, ?_⟩
      refine iteT ?_
      refine ⟨_, rfl, a, x, y, c, rfl, hf, fun t ht => ?_⟩
      refine ⟨_, rfl, b, x', y', c', rfl, hb.same (Same.new ht), fun u hu => ?_⟩
      refine ⟨.tuple [.int x, .int y, .int c], .tuple [.int x', .int y', .int c'], .tup (.inl (.inl (Same.new hu _ _ upd_same))) (.cons (.int x) (.cons (.int y) (.cons (.int c) .nil))), .tup (.inl (.inl upd_same)) (.cons (.int x') (.cons (.int y') (.cons (.int c') .nil))), rfl, rfl, ?_⟩
      rw [eqv3]
      exact k _ ((Same.new ht).trans (Same.new hu))
    · refine ⟨_, rfl, _, _, _, _, false, rfl, .own C, hT, T.own.kit hs, false, rfl, ?_⟩
      refine iteF ?_
      exact q
end
end N

set_option maxHeartbeats 4000000
namespace N
open PySem L2
structure FormOps (K : PySem.W.Frag) (C : Addr) : Prop where
  sf : PySem.W.selfFirst K C = true
  rA : PySem.W.findIn K (.ref C) "__radd__" = some none
  rS : PySem.W.findIn K (.ref C) "__rsub__" = some none
  rM : PySem.W.findIn K (.ref C) "__rmul__" = some none
  iA : ∃ fo, PySem.W.findIn K (.type "int") "__add__" = some fo
  iS : ∃ fo, PySem.W.findIn K (.type "int") "__sub__" = some fo
  iM : ∃ fo, PySem.W.findIn K (.type "int") "__mul__" = some fo
  jA : ∃ fo, PySem.W.findIn K (.type "int") "__radd__" = some fo
  jS : ∃ fo, PySem.W.findIn K (.type "int") "__rsub__" = some fo
  jM : ∃ fo, PySem.W.findIn K (.type "int") "__rmul__" = some fo
  ne : PySem.W.findIn K (.ref C) "__ne__" = some (some (.builtin "object.__ne__"))
section
variable {X : Cx} {mg : Str → Option Value} {C : Addr} {n : Nat} {ps : List Str} {sp : Sp}
theorem op_addF (T : FormC X.K mg C) (O : FormOps X.K C) (h : HasM X.prog X.w X.K X.mg X.base C "__add__" n ps sp) (hr : Room n X.A) : OpR X (binaryOp .Add) (rBinSame C sp E0) := by
  obtain ⟨f, fd, hm, hb, F⟩ := h.ex
  exact op_binSame O.sf hm.at_ hm.fn F hb hr pass0
theorem op_subF (T : FormC X.K mg C) (O : FormOps X.K C) (h : HasM X.prog X.w X.K X.mg X.base C "__sub__" n ps sp) (hr : Room n X.A) : OpR X (binaryOp .Sub) (rBinSame C sp E0) := by
  obtain ⟨f, fd, hm, hb, F⟩ := h.ex
  exact op_binSame O.sf hm.at_ hm.fn F hb hr pass0
theorem op_addI (T : FormC X.K mg C) (O : FormOps X.K C) (h : HasM X.prog X.w X.K X.mg X.base C "__add__" n ps sp) (hr : Room n X.A) : OpR X (binaryOp .Add) (rBinInt C sp E0) := by
  obtain ⟨f, fd, hm, hb, F⟩ := h.ex
  obtain ⟨fo, h1⟩ := O.iA
  obtain ⟨ro, h2⟩ := O.jA
  exact op_binInt O.sf hm.at_ hm.fn O.rA (.inl rfl) h1 h2 T.sI F hb hr pass0
theorem op_subI (T : FormC X.K mg C) (O : FormOps X.K C) (h : HasM X.prog X.w X.K X.mg X.base C "__sub__" n ps sp) (hr : Room n X.A) : OpR X (binaryOp .Sub) (rBinInt C sp E0) := by
  obtain ⟨f, fd, hm, hb, F⟩ := h.ex
  obtain ⟨fo, h1⟩ := O.iS
  obtain ⟨ro, h2⟩ := O.jS
  exact op_binInt O.sf hm.at_ hm.fn O.rS (.inl rfl) h1 h2 T.sI F hb hr pass0
theorem op_mulI (T : FormC X.K mg C) (O : FormOps X.K C) (h : HasM X.prog X.w X.K X.mg X.base C "__mul__" n ps sp) (hr : Room n X.A) : OpR X (binaryOp .Mult) (rBinInt C sp E0) := by
  obtain ⟨f, fd, hm, hb, F⟩ := h.ex
  obtain ⟨fo, h1⟩ := O.iM
  obtain ⟨ro, h2⟩ := O.jM
  exact op_binInt O.sf hm.at_ hm.fn O.rM (.inl rfl) h1 h2 T.sI F hb hr pass0
theorem un_negF (T : FormC X.K mg C) (h : HasM X.prog X.w X.K X.mg X.base C "__neg__" n ps sp) (hr : Room n X.A) : UnR X (unaryOp .USub) (rUnOwn C sp E0) := by
  obtain ⟨f, fd, hm, hb, F⟩ := h.ex
  exact un_negOwn hm.at_ hm.fn F hb hr pass0
theorem op_eqF (T : FormC X.K mg C) (h : HasM X.prog X.w X.K X.mg X.base C "__eq__" n ps sp) (hr : Room n X.A) : OpR X (compareOp .Eq) (rCmpOwn X.K C sp E0) := by
  obtain ⟨f, fd, hm, hb, F⟩ := h.ex
  exact op_eqOwn hm.at_ hm.fn F hb hr pass0
theorem op_neF (T : FormC X.K mg C) (O : FormOps X.K C) (h : HasM X.prog X.w X.K X.mg X.base C "__eq__" n ps sp) (hr : Room (n + 1) X.A) : OpR X (compareOp .NotEq) (rNeOwn X.K C sp E0) := by
  obtain ⟨f, fd, hm, hb, F⟩ := h.ex
  exact op_neOwn T.own.mo O.ne hm.at_ hm.fn F hb hr pass0
theorem call_reprF (h : HasM X.prog X.w X.K X.mg X.base C "__repr__" n ps sp) (hr : Room (n + 1) X.A) : CallR X (.builtin "repr") (rReprOwn C sp E0) := by
  obtain ⟨f, fd, hm, hb, F⟩ := h.ex
  exact call_reprOwn hm.at_ hm.fn F hb hr pass0
theorem call_strF (h : HasM X.prog X.w X.K X.mg X.base C "__str__" n ps sp) (hr : Room (n + 2) X.A) : CallR X (.type "str") (rReprOwn C sp E0) := by
  obtain ⟨f, fd, hm, hb, F⟩ := h.ex
  exact call_strOwn hm.at_ hm.fn F hb hr pass0
end
section
variable {P : Program} {w : World} {K : PySem.W.Frag} {mg : Str → Option Value} {base : Heap} {C : Addr}
abbrev s_Form_at : Stmt := inClass (top 7) 5
theorem sc_Form_at : FnScope ["self", "x", "y", "number"] ["self", "x", "y"] (defScope s_Form_at) := ⟨rfl, rfl, rfl, by decide +kernel, rfl, by decide +kernel, by decide +kernel⟩
theorem ok_at {f : Addr} {fd : FuncData} (B : Blts mg) (T : FormC K mg C) (F : FunD K "at" "Form.at" (defArgs s_Form_at) (defBody s_Form_at) (defScope s_Form_at) [.int 0] [] f fd) (his_integer : HI P w K mg base) :
    FnOk P w K mg base CX0 2 f fd ["self", "x", "y"] (spAt C) := by
  refine F.ok sc_Form_at (fun vs H Q E h => ?_) (fun cdv A outer s H vs Q E hr h => ?_)
  · obtain ⟨_, _, _, _, _, _, rfl, _⟩ := h
    rfl
  · obtain ⟨a, x, y, c, u, v, rfl, hf, bx, b_y, bu, bv, k⟩ := h
    refine ⟨_, PSs.nox (pss_cons (ps_for PassesOwn.never rfl (pi_tup (pe_tup (pa_cons (pv 1) (pa_cons (pv 2) pa_nil)))) (pg_name (i := 3) sc_Form_at.nd rfl (Or.inl rfl))
        (pss_one (ps_if (pt_not (pt_val (pe_has his_integer (hr.mono (by decide)) (pa_cons (pv 3) pa_nil)))) (pss_one ps_never)
          pss_nil)))
      (pss_one (ps_ret (pe_op op_add (pe_op op_add (pe_op op_mulW (pe_fld (pv 0) rfl) (pv 1)) (pe_op op_mulW (pe_fld (pv 0) rfl) (pv 2))) (pe_fld (pv 0) rfl))))), ?_⟩
    refine ⟨_, rfl, _, rfl, (by show 2 ≤ sizeLine; decide), fun t ht => ?_⟩
    refine ⟨t, rfl, ⟨_, SqT.of upd_same⟩, for_tup (K := K) (a := t) (xs := [.int u, .int v]) (fun i σ H2 => ∃ z : Option V, σ = [some (.ref a), some (.int u), some (.int v), z] ∧ H2 = upd H t (.tup [.int u, .int v])) ⟨none, rfl, rfl⟩ (fun i σ H2 _ ⟨_, _, e⟩ => by rw [e]; exact SqT.of upd_same) ?_ ?_⟩
    · rintro i y' σ H2 hi ⟨z, rfl, rfl⟩
      obtain ⟨z, rfl⟩ : ∃ z, y' = V.int z := by
        match i, hi with
        | 0, hi => exact ⟨_, (Option.some.inj hi).symm⟩
        | 1, hi => exact ⟨_, (Option.some.inj hi).symm⟩
        | n + 2, hi => simp at hi
      refine ⟨_, rfl, z, rfl, true, rfl, ?_⟩
      refine iteF ?_
      exact ⟨_, rfl, rfl⟩
    · rintro σ H2 ⟨z, rfl, rfl⟩
      obtain ⟨dx, ha⟩ := hf.same (Same.new ht (o := .tup [.int u, .int v]))
      refine ⟨_, rfl, a, C, dx, _, _, rfl, ha, T.cl, T.nX, ff_x _ _ _, _, rfl, _, _, rfl, rfl, bx.w bu (by decide) (by decide) (by decide), ?_⟩
      refine ⟨_, rfl, a, C, dx, _, _, rfl, ha, T.cl, T.nY, ff_y _ _ _, _, rfl, _, _, rfl, rfl, b_y.w bv (by decide) (by decide) (by decide), _, _, rfl, rfl, ?_⟩
      exact ⟨_, rfl, a, C, dx, _, _, rfl, ha, T.cl, T.nC, ff_c _ _ _, _, _, rfl, rfl, k _ (Same.new ht)⟩
abbrev s_Form_put : Stmt := inClass (top 7) 6
theorem sc_Form_put : FnScope ["self", "first", "second", "form"] ["self", "first", "second"] (defScope s_Form_put) := ⟨rfl, rfl, rfl, by decide +kernel, rfl, by decide +kernel, by decide +kernel⟩
theorem m_put (B : Blts mg) (T : FormC K mg C) (O : FormOps K C) (F : MethAt K C "put" "Form.put" s_Form_put) (mA : HasM P w K mg base C "__add__" 5 ["self", "other"] (spBin C (· + ·))) (mM : HasM P w K mg base C "__mul__" 4 ["self", "other"] (spMul C)) :
    HasM P w K mg base C "put" 6 ["self", "first", "second"] (spPut C) := by
  refine hasM_of F sc_Form_put (fun _ _ _ _ _ _ us hl => match us, hl with | [_, _, _], _ => rfl) (fun vs H Q E h => ?_) (fun f cdv A outer s H vs Q E hr h => ?_)
  · obtain ⟨_, _, _, _, _, _, _, _, _, _, _, _, rfl, _⟩ := h
    rfl
  · obtain ⟨a, b, d, x, y, c, x1, y1, c1, x2, y2, c2, rfl, hf, hb, hd, bx, b_y, bx1, by1, bc1, bx2, by2, bc2, k⟩ := h
    refine ⟨_, (pss_cons (ps_for PassesOwn.never rfl (pi_tup (pe_tup (pa_cons (pv 1) (pa_cons (pv 2) pa_nil)))) (pg_name (i := 3) sc_Form_put.nd rfl (Or.inl rfl))
        (pss_one (ps_if (pt_not (pt_val (pe_callB call_isi (by rfl) B.n_isinstance (by decide +kernel) (pa_cons (pv 3) (pa_cons (pe_glob (v := .ref C) rfl T.g rfl) pa_nil))))) (pss_one ps_never)
          pss_nil)))
      (pss_one (ps_ret (pe_op (op_addI T O mA (hr.mono (by decide))) (pe_op (op_addF T O mA (hr.mono (by decide))) (pe_op (op_mulI T O mM (hr.mono (by decide))) (pv 1) (pe_fld (pv 0) rfl)) (pe_op (op_mulI T O mM (hr.mono (by decide))) (pv 2) (pe_fld (pv 0) rfl))) (pe_fld (pv 0) rfl))))), ?_⟩
    refine ⟨_, rfl, _, rfl, (by show 2 ≤ sizeLine; decide), fun t ht => ?_⟩
    have s0 : Same H (upd H t (.tup [.ref b, .ref d])) := Same.new ht
    refine ⟨t, rfl, ⟨_, SqT.of upd_same⟩, for_tup (K := K) (a := t) (xs := [.ref b, .ref d]) (fun i σ H2 => ∃ z : Option V, σ = [some (.ref a), some (.ref b), some (.ref d), z] ∧ H2 = upd H t (.tup [.ref b, .ref d])) ⟨none, rfl, rfl⟩ (fun i σ H2 _ ⟨_, _, e⟩ => by rw [e]; exact SqT.of upd_same) ?_ ?_⟩
    · rintro i y' σ H2 hi ⟨z, rfl, rfl⟩
      obtain ⟨z, dz, fz, rfl, hz⟩ : ∃ z dz fz, y' = V.ref z ∧ (upd H t (.tup [.ref b, .ref d])) z = some (.ins C dz fz) := by
        match i, hi with
        | 0, hi =>
          obtain ⟨dz, e⟩ := hb.same s0
          exact ⟨b, dz, _, (Option.some.inj hi).symm, e⟩
        | 1, hi =>
          obtain ⟨dz, e⟩ := hd.same s0
          exact ⟨d, dz, _, (Option.some.inj hi).symm, e⟩
        | n + 2, hi => simp at hi
      refine ⟨_, rfl, _, _, _, _, true, rfl, .own C, T.own.ty hz, kit_self, true, rfl, ?_⟩
      refine iteF ?_
      exact ⟨_, rfl, rfl⟩
    · rintro σ H2 ⟨z, rfl, rfl⟩
      obtain ⟨db, hb1⟩ := hb.same s0
      obtain ⟨dx, ha⟩ := hf.same s0
      refine ⟨_, rfl, _, rfl, a, C, dx, _, _, rfl, ha, T.cl, T.nX, ff_x _ _ _, b, db, _, _, rfl, rfl, hb1, b, x1, y1, c1, x, rfl, ⟨db, hb1⟩, bx1, by1, bc1, bx, fun r1 H3 _ hr1 s1 => ?_⟩
      obtain ⟨dd, hd3⟩ := (hd.same s0).same s1
      refine ⟨_, rfl, _, rfl, a, C, dx, _, _, rfl, s1 _ _ ha, T.cl, T.nY, ff_y _ _ _, d, dd, _, _, rfl, rfl, hd3, d, x2, y2, c2, y, rfl, ⟨dd, hd3⟩, bx2, by2, bc2, b_y, fun r2 H4 _ hr2 s2 => ?_⟩
      obtain ⟨d1, e1⟩ := hr1.same s2
      obtain ⟨d2, e2⟩ := id hr2
      refine ⟨r1, d1, _, r2, d2, _, rfl, rfl, e1, e2, r1, .ref r2, _, _, _, _, _, _, rfl, ⟨d1, e1⟩, .inl ⟨r2, rfl, ⟨d2, e2⟩⟩, fun r3 H5 _ hr3 s3 => ?_⟩
      obtain ⟨d3, e3⟩ := id hr3
      refine ⟨_, rfl, a, C, dx, _, _, rfl, s3 _ _ (s2 _ _ (s1 _ _ ha)), T.cl, T.nC, ff_c _ _ _, r3, d3, _, c, rfl, rfl, e3, r3, .int c, _, _, _, 0, 0, c, rfl, ⟨d3, e3⟩, .inr ⟨rfl, rfl, rfl⟩, fun r4 H6 n4 hr4 s4 => ?_⟩
      have sa := ((s0.trans s1).trans s2).trans s3
      refine k r4 H6 (sa.free n4) ?_ (sa.trans s4)
      simpa only [Int.add_zero] using hr4
end
end N

set_option maxHeartbeats 4000000
namespace N
open PySem L2
def num (i : Int) : Str := Str.ofString (toString i)
def absI (i : Int) : Int := if i < 0 then -i else i
def sgn (f : Int) (t : Str) : Str := if t.length = 0 then (if f < 0 then "-" else "") else (if f < 0 then " - " else " + ")
def amt (f : Int) (l : Str) : Str := if l.length ≠ 0 ∧ absI f = 1 then l else (Str.empty ++ num (absI f)) ++ l
def stepP (t : Str) (f : Int) (l : Str) : Str := if f = 0 then t else ((Str.empty ++ t) ++ sgn f t) ++ amt f l
def textF (x y c : Int) : Str := if (stepP (stepP (stepP "" x "x") y "y") c "").length = 0 then "0" else stepP (stepP (stepP "" x "x") y "y") c ""
def reprF (x y c : Int) : Str := ((((((Str.empty ++ "Form(") ++ num x) ++ ", ") ++ num y) ++ ", ") ++ num c) ++ ")"
theorem num_len {i : Int} (h : Bd 1900 i) : (num i).length ≤ 1921 := PyProof.Rows.int_text_len_1921 (h.log (by decide) (by decide))
theorem absI_bd {n : Nat} {i : Int} (h : Bd n i) : Bd n (absI i) := by
  unfold absI
  split
  · exact h.neg
  · exact h
theorem emp_len : Str.empty.length = 0 := rfl
theorem sgn_len (f : Int) (t : Str) : (sgn f t).length ≤ 3 := by
  unfold sgn
  split
  · split <;> decide +kernel
  · split <;> decide +kernel
theorem amt_len {f : Int} {l : Str} (h : Bd 1900 f) (hl : l.length ≤ 1) : (amt f l).length ≤ 1922 := by
  have := num_len (absI_bd h)
  unfold amt
  split
  · omega
  · rw [Str.length_append, Str.length_append, emp_len]
    omega
theorem stepP_len {t : Str} {f : Int} {l : Str} {n : Nat} (ht : t.length ≤ n) (h : Bd 1900 f) (hl : l.length ≤ 1) : (stepP t f l).length ≤ n + 1925 := by
  have h1 := sgn_len f t
  have h2 := amt_len h hl
  unfold stepP
  split
  · omega
  · rw [Str.length_append, Str.length_append, Str.length_append, emp_len]
    omega
def spSign : Sp := fun vs H Q _ => ∃ (f : Int) (t : Str), vs = [.int f, .str t] ∧ t.length ≤ 100000 ∧ Q (.str (sgn f t)) H
def spAmt : Sp := fun vs H Q _ => ∃ (f : Int) (l : Str), vs = [.int f, .str l] ∧ l.length ≤ 1 ∧ Bd 1900 f ∧ Q (.str (amt f l)) H
def spText : Sp := fun vs H Q _ => ∃ x y c : Int, vs = [.int x, .int y, .int c] ∧ Bd 1900 x ∧ Bd 1900 y ∧ Bd 1900 c ∧ ∀ H', Same H H' → Q (.str (textF x y c)) H'
def spShow (C : Addr) (tx : Int → Int → Int → Str) : Sp := fun vs H Q _ => ∃ (a : Addr) (x y c : Int), vs = [.ref a] ∧ FormAt C H a x y c ∧ Bd 1900 x ∧ Bd 1900 y ∧ Bd 1900 c ∧ ∀ H', Same H H' → Q (.str (tx x y c)) H'
theorem small {n : Nat} (h : n ≤ 100000) : n ≤ sizeLine := Nat.le_trans h (by decide)
section
variable {P : Program} {w : World} {K : PySem.W.Frag} {mg : Str → Option Value} {base : Heap} {C : Addr}
abbrev s__sign : Stmt := top 11
theorem sc__sign : FnScope ["factor", "ahead"] ["factor", "ahead"] (defScope s__sign) := ⟨rfl, rfl, rfl, by decide +kernel, rfl, by decide +kernel, by decide +kernel⟩
theorem h_sign (F : FunAt K mg "_sign" "_sign" s__sign) : Has P w K mg base "_sign" 1 ["factor", "ahead"] spSign := by
  refine has_of F sc__sign (fun _ _ _ _ _ _ us hl => match us, hl with | [_, _], _ => rfl) (fun vs H Q E h => ?_) (fun f cdv A outer s H vs Q E hr h => ?_)
  · obtain ⟨_, _, rfl, _⟩ := h
    rfl
  · obtain ⟨n, t, rfl, ht, q⟩ := h
    refine ⟨_, (pss_cons (ps_if (pt_not (pt_truth (pv 1) (by intro _; rfl))) (pss_one (ps_ret (pe_ifExp (pt_cmpR op_lt (pv 0) pe_int (by first | exact nomark _ | rfl)) pe_str pe_str)))
        pss_nil)
      (pss_one (ps_ret (pe_ifExp (pt_cmpR op_lt (pv 0) pe_int (by first | exact nomark _ | rfl)) pe_str pe_str)))), ?_⟩
    refine ⟨_, rfl, _, ⟨small ht, rfl⟩, ?_⟩
    by_cases h0 : t.length = 0
    · rw [show ((t.length : Int) != 0) = false by rw [h0]; rfl]
      refine iteT ?_
      refine ⟨_, rfl, _, _, rfl, rfl, _, rfl, ?_⟩
      have e : sgn n t = (if n < 0 then ("-" : Str) else ("" : Str)) := if_pos h0
      rw [e] at q
      refine ite2 (fun c => ?_) (fun c => ?_)
      · rw [if_pos (of_decide_eq_true c)] at q
        exact q
      · rw [if_neg (fun z => c (decide_eq_true z))] at q
        exact q
    · rw [show ((t.length : Int) != 0) = true by simpa using h0]
      refine iteF ?_
      refine ⟨_, rfl, _, _, rfl, rfl, _, rfl, ?_⟩
      have e : sgn n t = (if n < 0 then (" - " : Str) else (" + " : Str)) := if_neg h0
      rw [e] at q
      refine ite2 (fun c => ?_) (fun c => ?_)
      · rw [if_pos (of_decide_eq_true c)] at q
        exact q
      · rw [if_neg (fun z => c (decide_eq_true z))] at q
        exact q
abbrev s__amount : Stmt := top 12
theorem sc__amount : FnScope ["factor", "letter"] ["factor", "letter"] (defScope s__amount) := ⟨rfl, rfl, rfl, by decide +kernel, rfl, by decide +kernel, by decide +kernel⟩
theorem h_amount (B : Blts mg) (F : FunAt K mg "_amount" "_amount" s__amount) : Has P w K mg base "_amount" 1 ["factor", "letter"] spAmt := by
  refine has_of F sc__amount (fun _ _ _ _ _ _ us hl => match us, hl with | [_, _], _ => rfl) (fun vs H Q E h => ?_) (fun f cdv A outer s H vs Q E hr h => ?_)
  · obtain ⟨_, _, rfl, _⟩ := h
    rfl
  · obtain ⟨n, l, rfl, hl, hb, q⟩ := h
    refine ⟨_, (pss_cons (ps_if (PW.pt (pw_and (pt_truth (pv 1) (by intro _; rfl)) (pw_and1 (pt_cmpR op_eq (pe_callB call_abs (by rfl) B.n_abs (by decide +kernel) (pa_cons (pv 0) pa_nil)) pe_int (by first | exact nomark _ | rfl))))) (pss_one (ps_ret (pv 1)))
        pss_nil)
      (pss_one (ps_ret (pe_joined (.cons (pe_fmt (pe_callB call_abs (by rfl) B.n_abs (by decide +kernel) (pa_cons (pv 0) pa_nil))) (.cons (pe_fmt (pv 1)) .nil)))))), ?_⟩
    have hn := num_len (absI_bd hb)
    have fin : ∀ σ, σ = start ["factor", "letter"] [.int n, .str l] → ¬ (l.length ≠ 0 ∧ absI n = 1) → tRet (fun σ H Q => tJs [tFmt (tCB (fun xs H Q => ∃ i, xs = [V.int i] ∧ Q (.int (if i < 0 then -i else i)) H) (tCons (tVar 0) tNil)), tFmt (tVar 1)] Str.empty σ H fun out H1 => Q (.str out) H1) { nx := fun _ H' => Q .non H', rt := Q } σ H := by
      rintro σ rfl hne
      rw [show amt n l = (Str.empty ++ num (absI n)) ++ l from if_neg hne] at q
      refine ⟨_, rfl, _, rfl, .inr ⟨_, rfl, (absI_bd hb).log (by decide) (by decide), _, rfl, ?_, _, rfl, .inl ⟨_, rfl, small (by omega), _, rfl, ?_, q⟩⟩⟩
      · show (Str.empty ++ num (absI n)).length ≤ sizeLine
        rw [Str.length_append, emp_len]
        exact small (by omega)
      · show ((Str.empty ++ num (absI n)) ++ l).length ≤ sizeLine
        rw [Str.length_append, Str.length_append, emp_len]
        exact small (by omega)
    refine ⟨_, rfl, _, ⟨small (by omega), rfl⟩, ?_⟩
    by_cases h0 : l.length = 0
    · rw [show ((l.length : Int) != 0) = false by rw [h0]; rfl]
      refine iteF (iteF ?_)
      exact fin _ rfl fun z => z.1 h0
    · rw [show ((l.length : Int) != 0) = true by simpa using h0]
      refine iteT ?_
      refine ⟨_, rfl, _, rfl, rfl, _, rfl, ?_⟩
      by_cases h1 : absI n = 1
      · rw [show decide (V.int (if n < 0 then -n else n) = V.int 1) = true from decide_eq_true (congrArg V.int h1)]
        refine iteT ?_
        rw [show amt n l = l from if_pos ⟨h0, h1⟩] at q
        exact ⟨_, rfl, q⟩
      · rw [show decide (V.int (if n < 0 then -n else n) = V.int 1) = false from decide_eq_false fun z => h1 (V.int.inj z)]
        refine iteF ?_
        exact fin _ rfl fun z => h1 z.2
abbrev s__text_of : Stmt := top 10
theorem sc__text_of : FnScope ["x", "y", "constant", "text", "factor", "letter"] ["x", "y", "constant"] (defScope s__text_of) := ⟨rfl, rfl, rfl, by decide +kernel, rfl, by decide +kernel, by decide +kernel⟩
def stages (x y c : Int) : Nat → Str
  | 0 => ""
  | 1 => stepP "" x "x"
  | 2 => stepP (stepP "" x "x") y "y"
  | _ => stepP (stepP (stepP "" x "x") y "y") c ""
theorem h_text_of (F : FunAt K mg "_text_of" "_text_of" s__text_of) (h_sign : Has P w K mg base "_sign" 1 ["factor", "ahead"] spSign) (h_amount : Has P w K mg base "_amount" 1 ["factor", "letter"] spAmt) : Has P w K mg base "_text_of" 2 ["x", "y", "constant"] spText := by
  refine has_of F sc__text_of (fun _ _ _ _ _ _ us hl => match us, hl with | [_, _, _], _ => rfl) (fun vs H Q E h => ?_) (fun f cdv A outer s H vs Q E hr h => ?_)
  · obtain ⟨_, _, _, rfl, _⟩ := h
    rfl
  · obtain ⟨x, y, c, rfl, bx, b_y, bc, k⟩ := h
    refine ⟨_, (pss_cons (ps_set (i := 3) sc__text_of.nd rfl (Or.inl rfl) pe_str)
      (pss_cons (ps_for PassesOwn.never rfl (pi_tup (pe_tup (pa_cons (pe_tup (pa_cons (pv 0) (pa_cons pe_str pa_nil))) (pa_cons (pe_tup (pa_cons (pv 1) (pa_cons pe_str pa_nil))) (pa_cons (pe_tup (pa_cons (pv 2) (pa_cons pe_str pa_nil))) pa_nil))))) (pg_tup rfl (pgs_cons (pg_name (i := 4) sc__text_of.nd rfl (Or.inl rfl)) (pgs_cons (pg_name (i := 5) sc__text_of.nd rfl (Or.inl rfl)) pgs_nil)))
        (pss_one (ps_if (pt_cmpR op_ne (pv 4) pe_int (by first | exact nomark _ | rfl)) (pss_one (ps_set (i := 3) sc__text_of.nd rfl (Or.inl rfl) (pe_joined (.cons (pe_fmt (pv 3)) (.cons (pe_fmt (pe_has h_sign (hr.mono (by decide)) (pa_cons (pv 4) (pa_cons (pv 3) pa_nil)))) (.cons (pe_fmt (pe_has h_amount (hr.mono (by decide)) (pa_cons (pv 4) (pa_cons (pv 5) pa_nil)))) .nil))))))
          pss_nil)))
      (pss_one (ps_ret (pe_ifExp (pt_truth (pv 3) (by intro _; rfl)) (pv 3) pe_str))))), ?_⟩
    refine ⟨_, rfl, (by show 2 ≤ sizeLine; decide), fun t1 n1 => ⟨_, rfl, (by show 2 ≤ sizeLine; decide), fun t2 n2 => ⟨_, rfl, (by show 2 ≤ sizeLine; decide), fun t3 n3 => ⟨(by show 3 ≤ sizeLine; decide), fun t4 n4 => ?_⟩⟩⟩⟩
    have l0 : (stages x y c 0).length ≤ 0 := by show (Str.ofString "").length ≤ 0; decide +kernel
    have l1 : (stages x y c 1).length ≤ 1925 := stepP_len (n := 0) l0 bx (by decide +kernel)
    have l2 : (stages x y c 2).length ≤ 1925 + 1925 := stepP_len l1 b_y (by decide +kernel)
    have l3 : (stages x y c 3).length ≤ 1925 + 1925 + 1925 := stepP_len l2 bc (by decide +kernel)
    have lens : ∀ i, (stages x y c i).length ≤ 6000 := fun i => by
      match i with
      | 0 => omega
      | 1 => omega
      | 2 => omega
      | n + 3 =>
        have : stages x y c (n + 3) = stages x y c 3 := rfl
        rw [this]
        omega
    generalize hH4 : upd (upd (upd (upd H t1 (.tup [.int x, .str "x"])) t2 (.tup [.int y, .str "y"])) t3 (.tup [.int c, .str ""])) t4 (.tup [.ref t1, .ref t2, .ref t3]) = H4
    have e4 : H4 t4 = some (.tup [.ref t1, .ref t2, .ref t3]) := by rw [← hH4]; exact upd_same
    have e3 : H4 t3 = some (.tup [.int c, .str ""]) := by rw [← hH4]; exact Same.new n4 _ _ upd_same
    have e2 : H4 t2 = some (.tup [.int y, .str "y"]) := by rw [← hH4]; exact Same.new n4 _ _ (Same.new n3 _ _ upd_same)
    have e1 : H4 t1 = some (.tup [.int x, .str "x"]) := by rw [← hH4]; exact Same.new n4 _ _ (Same.new n3 _ _ (Same.new n2 _ _ upd_same))
    have sm : Same H H4 := by rw [← hH4]; exact (((Same.new n1).trans (Same.new n2)).trans (Same.new n3)).trans (Same.new n4)
    refine ⟨t4, rfl, ⟨_, SqT.of e4⟩, for_tup (K := K) (a := t4) (xs := [.ref t1, .ref t2, .ref t3]) (fun i σ H2 => ∃ (u v : Option V), σ = [some (.int x), some (.int y), some (.int c), some (.str (stages x y c i)), u, v] ∧ H2 = H4) ⟨none, none, rfl, rfl⟩ (fun i σ H2 _ ⟨_, _, _, e⟩ => by rw [e]; exact SqT.of e4) ?_ ?_⟩
    · rintro i y' σ H2 hi ⟨u, v, rfl, rfl⟩
      obtain ⟨t, n, l, rfl, et, hl, hb, hst⟩ : ∃ (t : Addr) (n : Int) (l : Str), y' = V.ref t ∧ H2 t = some (.tup [.int n, .str l]) ∧ l.length ≤ 1 ∧ Bd 1900 n ∧ stages x y c (i + 1) = stepP (stages x y c i) n l := by
        match i, hi with
        | 0, hi => exact ⟨t1, x, "x", (Option.some.inj hi).symm, e1, by decide +kernel, bx, rfl⟩
        | 1, hi => exact ⟨t2, y, "y", (Option.some.inj hi).symm, e2, by decide +kernel, b_y, rfl⟩
        | 2, hi => exact ⟨t3, c, "", (Option.some.inj hi).symm, e3, by decide +kernel, bc, rfl⟩
        | n + 3, hi => simp at hi
      have ll := lens i
      refine ⟨t, _, rfl, SqT.of et, rfl, _, _, rfl, _, _, rfl, rfl, _, rfl, rfl, _, rfl, ?_⟩
      by_cases hn : n = 0
      · refine iteNS (congrArg V.int hn) ?_
        refine ⟨some (.int n), some (.str l), ?_, rfl⟩
        rw [hst]
        unfold stepP
        rw [if_pos hn]
        rfl
      · rw [show (!decide (V.int n = V.int 0)) = true by simp [hn]]
        refine iteT ?_
        have g1 := sgn_len n (stages x y c i)
        have g2 := amt_len hb hl
        refine ⟨_, rfl, .inl ⟨_, rfl, small (by omega), _, rfl, ?_, _, rfl, _, rfl, n, _, rfl, by omega, .inl ⟨_, rfl, small (by omega), _, rfl, ?_, _, rfl, _, rfl, n, l, rfl, hl, hb, .inl ⟨_, rfl, small (by omega), _, rfl, ?_, ?_⟩⟩⟩⟩
        · rw [Str.length_append, emp_len]
          exact small (by omega)
        · rw [Str.length_append, Str.length_append, emp_len]
          exact small (by omega)
        · rw [Str.length_append, Str.length_append, Str.length_append, emp_len]
          exact small (by omega)
        · refine ⟨some (.int n), some (.str l), ?_, rfl⟩
          rw [hst]
          unfold stepP
          rw [if_neg hn]
          rfl
    · rintro σ H2 ⟨u, v, rfl, rfl⟩
      have ll : (stages x y c [V.ref t1, V.ref t2, V.ref t3].length).length ≤ 6000 := lens 3
      refine ⟨_, rfl, _, ⟨small (by omega), rfl⟩, ?_⟩
      have hk := k _ sm
      by_cases h0 : (stages x y c 3).length = 0
      · rw [show textF x y c = "0" from if_pos h0] at hk
        show if (((stages x y c 3).length : Int) != 0) = true then _ else _
        rw [show (((stages x y c 3).length : Int) != 0) = false by rw [h0]; rfl]
        exact iteF hk
      · rw [show textF x y c = stages x y c 3 from if_neg h0] at hk
        show if (((stages x y c 3).length : Int) != 0) = true then _ else _
        rw [show (((stages x y c 3).length : Int) != 0) = true by simpa using h0]
        exact iteT ⟨_, rfl, hk⟩
abbrev s_Form___str__ : Stmt := inClass (top 7) 12
theorem sc_FormD_strD : FnScope ["self"] ["self"] (defScope s_Form___str__) := ⟨rfl, rfl, rfl, by decide +kernel, rfl, by decide +kernel, by decide +kernel⟩
theorem m_str (B : Blts mg) (T : FormC K mg C) (F : MethAt K C "__str__" "Form.__str__" s_Form___str__) (h_text_of : Has P w K mg base "_text_of" 2 ["x", "y", "constant"] spText) : HasM P w K mg base C "__str__" 3 ["self"] (spShow C textF) := by
  refine hasM_of F sc_FormD_strD (fun _ _ _ _ _ _ us hl => match us, hl with | [_], _ => rfl) (fun vs H Q E h => ?_) (fun f cdv A outer s H vs Q E hr h => ?_)
  · obtain ⟨_, _, _, _, rfl, _⟩ := h
    rfl
  · obtain ⟨a, x, y, c, rfl, ⟨dx, ha⟩, bx, b_y, bc, k⟩ := h
    refine ⟨_, (pss_one (ps_ret (pe_callTy SkE.call_str_str (by rfl) B.n_str (by decide +kernel) (pa_cons (pe_has h_text_of (hr.mono (by decide)) (pa_cons (pe_fld (pv 0) rfl) (pa_cons (pe_fld (pv 0) rfl) (pa_cons (pe_fld (pv 0) rfl) pa_nil)))) pa_nil)))), ?_⟩
    refine ⟨_, rfl, a, C, dx, _, _, rfl, ha, T.cl, T.nX, ff_x _ _ _, _, rfl, a, C, dx, _, _, rfl, ha, T.cl, T.nY, ff_y _ _ _, _, rfl, a, C, dx, _, _, rfl, ha, T.cl, T.nC, ff_c _ _ _, x, y, c, rfl, bx, b_y, bc, fun H' s => ?_⟩
    exact ⟨_, rfl, k H' s⟩
abbrev s_Form___repr__ : Stmt := inClass (top 7) 13
theorem sc_FormD_reprD : FnScope ["self"] ["self"] (defScope s_Form___repr__) := ⟨rfl, rfl, rfl, by decide +kernel, rfl, by decide +kernel, by decide +kernel⟩
theorem w1 : (("Form(" : Str)).length = 5 := by decide +kernel
theorem w2 : ((", " : Str)).length = 2 := by decide +kernel
theorem w3 : ((")" : Str)).length = 1 := by decide +kernel
theorem m_repr (T : FormC K mg C) (F : MethAt K C "__repr__" "Form.__repr__" s_Form___repr__) : HasM P w K mg base C "__repr__" 1 ["self"] (spShow C reprF) := by
  refine hasM_of F sc_FormD_reprD (fun _ _ _ _ _ _ us hl => match us, hl with | [_], _ => rfl) (fun vs H Q E h => ?_) (fun f cdv A outer s H vs Q E hr h => ?_)
  · obtain ⟨_, _, _, _, rfl, _⟩ := h
    rfl
  · obtain ⟨a, x, y, c, rfl, ⟨dx, ha⟩, bx, b_y, bc, k⟩ := h
    refine ⟨_, (pss_one (ps_ret (pe_joined (.cons pe_str (.cons (pe_fmt (pe_fld (pv 0) rfl)) (.cons pe_str (.cons (pe_fmt (pe_fld (pv 0) rfl)) (.cons pe_str (.cons (pe_fmt (pe_fld (pv 0) rfl)) (.cons pe_str .nil)))))))))), ?_⟩
    have l1 := num_len bx
    have l2 := num_len b_y
    have l3 := num_len bc
    refine ⟨_, rfl, ?_, _, rfl, a, C, dx, _, _, rfl, ha, T.cl, T.nX, ff_x _ _ _, .inr ⟨x, rfl, bx.log (by decide) (by decide), num x, rfl, ?_, _, rfl, ?_, _, rfl, a, C, dx, _, _, rfl, ha, T.cl, T.nY, ff_y _ _ _, .inr ⟨y, rfl, b_y.log (by decide) (by decide), num y, rfl, ?_, _, rfl, ?_, _, rfl, a, C, dx, _, _, rfl, ha, T.cl, T.nC, ff_c _ _ _, .inr ⟨c, rfl, bc.log (by decide) (by decide), num c, rfl, ?_, _, rfl, ?_, k H (Same.refl H)⟩⟩⟩⟩
    all_goals
      simp only [Str.length_append, emp_len, w1, w2, w3]
      exact small (by omega)
end
end N

set_option maxHeartbeats 4000000
namespace N
open PySem L2
theorem str_len0 {t : Str} : t.length = 0 ↔ t = ("" : Str) := by
  constructor
  · intro h
    refine Str.ext' ?_
    have h' : t.cps.size = 0 := h
    have e : t.cps = #[] := Array.eq_empty_of_size_eq_zero h'
    rw [e]
    rfl
  · rintro rfl
    rfl
theorem dec_int (a b : Int) : decide (V.int a = V.int b) = decide (a = b) := by rw [Bool.eq_iff_iff]; simp
theorem dec_str (a b : Str) : decide (V.str a = V.str b) = decide (a = b) := by rw [Bool.eq_iff_iff]; simp
def joint (n : Int) (t : Str) : Str := if t = "" then (if n < 0 then "-" else "") else (if n < 0 then " - " else " + ")
def sizeL (n : Int) (l : Str) : Str := if absI n = 1 ∧ l ≠ "" then "" else num (absI n)
theorem joint_sgn (n : Int) (t : Str) : joint n t = sgn n t := by
  unfold joint sgn
  by_cases h : t = ""
  · rw [if_pos h, if_pos (str_len0.mpr h)]
  · rw [if_neg h, if_neg (fun z => h (str_len0.mp z))]
theorem size_amt (n : Int) (l : Str) : sizeL n l ++ l = amt n l := by
  unfold sizeL amt
  by_cases h : absI n = 1 ∧ l ≠ ""
  · rw [if_pos h, if_pos ⟨fun z => h.2 (str_len0.mp z), h.1⟩]
    exact Str.empty_append l
  · rw [if_neg h, if_neg (fun z => h ⟨z.2, fun e => z.1 (str_len0.mpr e)⟩), Str.empty_append]
theorem lstep_eq {n : Int} (t l : Str) (h : ¬ n = 0) : ((t ++ joint n t) ++ sizeL n l) ++ l = stepP t n l := by
  unfold stepP
  rw [if_neg h, Str.empty_append, ← size_amt, joint_sgn, Str.append_assoc]
theorem sizeL_len {n : Int} {l : Str} (h : Bd 1900 n) : (sizeL n l).length ≤ 1921 := by
  unfold sizeL
  split
  · decide +kernel
  · exact num_len (absI_bd h)
def spLText (K : PySem.W.Frag) : Sp := fun vs H Q _ => ∃ (t : Addr) (x y c : Int), vs = [.ref t] ∧ SqT K H t [.int x, .int y, .int c] ∧ Bd 1900 x ∧ Bd 1900 y ∧ Bd 1900 c ∧ ∀ H', Same H H' → Q (.str (textF x y c)) H'
section
variable {P : Program} {w : World} {K : PySem.W.Frag} {mg : Str → Option Value} {base : Heap} {C : Addr}
abbrev s__law_text : Stmt := top 21
theorem sc__law_text : FnScope ["_law_told", "_law_found", "_law_number_here", "_law_sign", "_law_size", "_law_joint"] ["_law_told"] (defScope s__law_text) := ⟨rfl, rfl, rfl, by decide +kernel, rfl, by decide +kernel, by decide +kernel⟩
theorem h_law_text (B : Blts mg) (F : FunAt K mg "_law_text" "_law_text" s__law_text) : Has P w K mg base "_law_text" 1 ["_law_told"] (spLText K) := by
  refine has_of F sc__law_text (fun _ _ _ _ _ _ us hl => match us, hl with | [_], _ => rfl) (fun vs H Q E h => ?_) (fun f cdv A outer s H vs Q E hr h => ?_)
  · obtain ⟨_, _, _, _, rfl, _⟩ := h
    rfl
  · obtain ⟨tt, x, y, c, rfl, hT, bx, b_y, bc, k⟩ := h
    refine ⟨_, (pss_cons (ps_set (i := 1) sc__law_text.nd rfl (Or.inl rfl) pe_str)
      (pss_cons (ps_for PassesOwn.never rfl (pi_list (pe_lst (pa_cons (pe_tup (pa_cons (pe_ix ix_tup (pv 0) pe_int (fun _ _ => rfl)) (pa_cons pe_str pa_nil))) (pa_cons (pe_tup (pa_cons (pe_ix ix_tup (pv 0) pe_int (fun _ _ => rfl)) (pa_cons pe_str pa_nil))) (pa_cons (pe_tup (pa_cons (pe_ix ix_tup (pv 0) pe_int (fun _ _ => rfl)) (pa_cons pe_str pa_nil))) pa_nil))))) (pg_tup rfl (pgs_cons (pg_name (i := 2) sc__law_text.nd rfl (Or.inl rfl)) (pgs_cons (pg_name (i := 3) sc__law_text.nd rfl (Or.inl rfl)) pgs_nil)))
        (pss_cons (ps_set (i := 4) sc__law_text.nd rfl (Or.inl rfl) (pe_ifExp (PW.pt (pw_and (pt_cmpR op_eq (pe_callB call_abs (by rfl) B.n_abs (by decide +kernel) (pa_cons (pv 2) pa_nil)) pe_int (by first | exact nomark _ | rfl)) (pw_and1 (pt_cmpR op_ne (pv 3) pe_str (by first | exact nomark _ | rfl))))) pe_str (pe_callTy call_str_int (by rfl) B.n_str (by decide +kernel) (pa_cons (pe_callB call_abs (by rfl) B.n_abs (by decide +kernel) (pa_cons (pv 2) pa_nil)) pa_nil))))
        (pss_one (ps_if (pt_cmpR op_ne (pv 2) pe_int (by first | exact nomark _ | rfl)) (pss_cons (ps_set (i := 5) sc__law_text.nd rfl (Or.inl rfl) (pe_ifExp (pt_cmpR op_lt (pv 2) pe_int (by first | exact nomark _ | rfl)) pe_str pe_str))
          (pss_cons (ps_if (pt_cmpR op_eq (pv 1) pe_str (by first | exact nomark _ | rfl)) (pss_one (ps_set (i := 5) sc__law_text.nd rfl (Or.inl rfl) (pe_ifExp (pt_cmpR op_lt (pv 2) pe_int (by first | exact nomark _ | rfl)) pe_str pe_str)))
            pss_nil)
          (pss_one (ps_set (i := 1) sc__law_text.nd rfl (Or.inl rfl) (pe_op op_add_str (pe_op op_add_str (pe_op op_add_str (pv 1) (pv 5)) (pv 4)) (pv 3))))))
          pss_nil))))
      (pss_one (ps_ret (pe_ifExp (pt_cmpR op_ne (pv 1) pe_str (by first | exact nomark _ | rfl)) (pv 1) pe_str))))), ?_⟩
    refine ⟨_, rfl, tt, _, 0, _, rfl, rfl, hT, rfl, (by show 2 ≤ sizeLine; decide), fun t1 n1 => ?_⟩
    refine ⟨_, rfl, tt, _, 1, _, rfl, rfl, (Same.new n1).st hT, rfl, (by show 2 ≤ sizeLine; decide), fun t2 n2 => ?_⟩
    refine ⟨_, rfl, tt, _, 2, _, rfl, rfl, (Same.new n2).st ((Same.new n1).st hT), rfl, (by show 2 ≤ sizeLine; decide), fun t3 n3 => ⟨(by show 3 ≤ sizeLine; decide), fun t4 n4 => ?_⟩⟩
    have l0 : (stages x y c 0).length ≤ 0 := by show (Str.ofString "").length ≤ 0; decide +kernel
    have l1 : (stages x y c 1).length ≤ 1925 := stepP_len (n := 0) l0 bx (by decide +kernel)
    have l2 : (stages x y c 2).length ≤ 1925 + 1925 := stepP_len l1 b_y (by decide +kernel)
    have l3 : (stages x y c 3).length ≤ 1925 + 1925 + 1925 := stepP_len l2 bc (by decide +kernel)
    have lens : ∀ i, (stages x y c i).length ≤ 6000 := fun i => by
      match i with
      | 0 => omega
      | 1 => omega
      | 2 => omega
      | n + 3 =>
        have : stages x y c (n + 3) = stages x y c 3 := rfl
        rw [this]
        omega
    generalize hH4 : upd (upd (upd (upd H t1 (.tup [.int x, .str "x"])) t2 (.tup [.int y, .str "y"])) t3 (.tup [.int c, .str ""])) t4 (.lst [.ref t1, .ref t2, .ref t3]) = H4
    have e4 : H4 t4 = some (.lst [.ref t1, .ref t2, .ref t3]) := by rw [← hH4]; exact upd_same
    have e3 : H4 t3 = some (.tup [.int c, .str ""]) := by rw [← hH4]; exact Same.new n4 _ _ upd_same
    have e2 : H4 t2 = some (.tup [.int y, .str "y"]) := by rw [← hH4]; exact Same.new n4 _ _ (Same.new n3 _ _ upd_same)
    have e1 : H4 t1 = some (.tup [.int x, .str "x"]) := by rw [← hH4]; exact Same.new n4 _ _ (Same.new n3 _ _ (Same.new n2 _ _ upd_same))
    have sm : Same H H4 := by rw [← hH4]; exact (((Same.new n1).trans (Same.new n2)).trans (Same.new n3)).trans (Same.new n4)
    refine ⟨t4, rfl, ⟨_, SqL.of e4⟩, for_list (K := K) (a := t4) (xs := [.ref t1, .ref t2, .ref t3]) (fun i σ H2 => ∃ (u v p q : Option V), σ = [some (.ref tt), some (.str (stages x y c i)), u, v, p, q] ∧ H2 = H4) ⟨none, none, none, none, rfl, rfl⟩ (fun i σ H2 _ ⟨_, _, _, _, _, e⟩ => by rw [e]; exact SqL.of e4) ?_ ?_⟩
    · rintro i y' σ H2 hi ⟨u, v, p, q, rfl, rfl⟩
      obtain ⟨t, n, l, rfl, et, hl, hb, hst⟩ : ∃ (t : Addr) (n : Int) (l : Str), y' = V.ref t ∧ H2 t = some (.tup [.int n, .str l]) ∧ l.length ≤ 1 ∧ Bd 1900 n ∧ stages x y c (i + 1) = stepP (stages x y c i) n l := by
        match i, hi with
        | 0, hi => exact ⟨t1, x, "x", (Option.some.inj hi).symm, e1, by decide +kernel, bx, rfl⟩
        | 1, hi => exact ⟨t2, y, "y", (Option.some.inj hi).symm, e2, by decide +kernel, b_y, rfl⟩
        | 2, hi => exact ⟨t3, c, "", (Option.some.inj hi).symm, e3, by decide +kernel, bc, rfl⟩
        | n + 3, hi => simp at hi
      have ll := lens i
      have g1 := sgn_len n (stages x y c i)
      have g2 := sizeL_len (l := l) hb
      -- what follows when the size is known
      have rest : tIfS (tTest (tOp rNe (tVar 2) (tC (.int 0)))) (tSeq (tAsg (tIf (tTest (tOp (rI0 fun i j => .bl (decide (i < j))) (tVar 2) (tC (.int 0)))) (tC (.str " - ")) (tC (.str " + "))) (gName 5))
            (tSeq (tIfS (tTest (tOp rEq (tVar 1) (tC (.str "")))) (tAsg (tIf (tTest (tOp (rI0 fun i j => .bl (decide (i < j))) (tVar 2) (tC (.int 0)))) (tC (.str "-")) (tC (.str ""))) (gName 5)) tNext)
              (tAsg (tOp (fun x y H Q => ∃ i j, x = .str i ∧ y = .str j ∧ i.length + j.length ≤ sizeLine ∧ Q (.str (i ++ j)) H) (tOp (fun x y H Q => ∃ i j, x = .str i ∧ y = .str j ∧ i.length + j.length ≤ sizeLine ∧ Q (.str (i ++ j)) H) (tOp (fun x y H Q => ∃ i j, x = .str i ∧ y = .str j ∧ i.length + j.length ≤ sizeLine ∧ Q (.str (i ++ j)) H) (tVar 1) (tVar 5)) (tVar 4)) (tVar 3)) (gName 1)))) tNext
          { nx := fun σ H2' => ∃ (u v p q : Option V), σ = [some (.ref tt), some (.str (stages x y c (i + 1))), u, v, p, q] ∧ H2' = H2, rt := Q, ct := fun _ _ => False, bk := fun _ _ => False }
          [some (.ref tt), some (.str (stages x y c i)), some (.int n), some (.str l), some (.str (sizeL n l)), q] H2 := by
        refine ⟨_, rfl, rfl, _, rfl, ?_⟩
        rw [dec_int]
        by_cases hn : n = 0
        · rw [show (!decide (n = 0)) = false by simp [hn]]
          refine iteF ?_
          refine ⟨some (.int n), some (.str l), some (.str (sizeL n l)), q, ?_, rfl⟩
          rw [hst]
          unfold stepP
          rw [if_pos hn]
        · rw [show (!decide (n = 0)) = true by simp [hn]]
          refine iteT ?_
          rw [show stages x y c (i + 1) = ((stages x y c i ++ joint n (stages x y c i)) ++ sizeL n l) ++ l by rw [hst, lstep_eq _ _ hn]]
          have gj : (joint n (stages x y c i)).length ≤ 3 := by rw [joint_sgn]; exact g1
          refine ⟨_, rfl, _, _, rfl, rfl, _, rfl, ?_⟩
          by_cases h0 : n < 0
          · rw [decide_eq_true h0]
            refine iteT ?_
            refine ⟨_, rfl, rfl, _, rfl, ?_⟩
            rw [dec_str]
            by_cases ht : stages x y c i = ""
            · rw [decide_eq_true ht]
              refine iteT ?_
              refine ⟨_, rfl, _, _, rfl, rfl, _, rfl, ?_⟩
              rw [decide_eq_true h0]
              refine iteT ?_
              have ej : joint n (stages x y c i) = "-" := by unfold joint; rw [if_pos ht, if_pos h0]
              rw [ej]
              rw [ej] at gj
              refine ⟨_, rfl, _, rfl, _, _, rfl, rfl, small (by omega), _, rfl, _, _, rfl, rfl, ?_, _, rfl, _, _, rfl, rfl, ?_, _, _, _, _, rfl, rfl⟩
              all_goals
                simp only [Str.length_append]
                exact small (by omega)
            · rw [decide_eq_false ht]
              refine iteF ?_
              have ej : joint n (stages x y c i) = " - " := by unfold joint; rw [if_neg ht, if_pos h0]
              rw [ej]
              rw [ej] at gj
              refine ⟨_, rfl, _, rfl, _, _, rfl, rfl, small (by omega), _, rfl, _, _, rfl, rfl, ?_, _, rfl, _, _, rfl, rfl, ?_, _, _, _, _, rfl, rfl⟩
              all_goals
                simp only [Str.length_append]
                exact small (by omega)
          · rw [decide_eq_false h0]
            refine iteF ?_
            refine ⟨_, rfl, rfl, _, rfl, ?_⟩
            rw [dec_str]
            by_cases ht : stages x y c i = ""
            · rw [decide_eq_true ht]
              refine iteT ?_
              refine ⟨_, rfl, _, _, rfl, rfl, _, rfl, ?_⟩
              rw [decide_eq_false h0]
              refine iteF ?_
              have ej : joint n (stages x y c i) = "" := by unfold joint; rw [if_pos ht, if_neg h0]
              rw [ej]
              rw [ej] at gj
              refine ⟨_, rfl, _, rfl, _, _, rfl, rfl, small (by omega), _, rfl, _, _, rfl, rfl, ?_, _, rfl, _, _, rfl, rfl, ?_, _, _, _, _, rfl, rfl⟩
              all_goals
                simp only [Str.length_append]
                exact small (by omega)
            · rw [decide_eq_false ht]
              refine iteF ?_
              have ej : joint n (stages x y c i) = " + " := by unfold joint; rw [if_neg ht, if_neg h0]
              rw [ej]
              rw [ej] at gj
              refine ⟨_, rfl, _, rfl, _, _, rfl, rfl, small (by omega), _, rfl, _, _, rfl, rfl, ?_, _, rfl, _, _, rfl, rfl, ?_, _, _, _, _, rfl, rfl⟩
              all_goals
                simp only [Str.length_append]
                exact small (by omega)
      refine ⟨t, _, rfl, SqT.of et, rfl, _, _, rfl, _, _, rfl, rfl, ?_⟩
      refine ⟨_, rfl, _, rfl, rfl, _, rfl, ?_⟩
      by_cases h1 : absI n = 1
      · rw [show decide (V.int (if n < 0 then -n else n) = V.int 1) = true from decide_eq_true (congrArg V.int h1)]
        refine iteT ?_
        refine ⟨_, rfl, rfl, _, rfl, ?_⟩
        rw [dec_str]
        by_cases h2 : l = ""
        · rw [show (!decide (l = "")) = false by simp [h2]]
          refine iteF ?_
          refine ⟨_, rfl, _, rfl, _, rfl, (absI_bd hb).log (by decide) (by decide), ?_⟩
          rw [show sizeL n l = num (absI n) from if_neg fun z => z.2 h2] at rest
          exact rest
        · rw [show (!decide (l = "")) = true by simp [h2]]
          refine iteT ?_
          rw [show sizeL n l = ("" : Str) from if_pos ⟨h1, h2⟩] at rest
          exact rest
      · rw [show decide (V.int (if n < 0 then -n else n) = V.int 1) = false from decide_eq_false fun z => h1 (V.int.inj z)]
        refine iteF (iteF ?_)
        refine ⟨_, rfl, _, rfl, _, rfl, (absI_bd hb).log (by decide) (by decide), ?_⟩
        rw [show sizeL n l = num (absI n) from if_neg fun z => h1 z.1] at rest
        exact rest
    · rintro σ H2 ⟨u, v, p, q, rfl, rfl⟩
      have hk := k _ sm
      refine ⟨_, rfl, rfl, _, rfl, ?_⟩
      rw [dec_str]
      by_cases h0 : stages x y c 3 = ""
      · rw [show textF x y c = "0" from if_pos (str_len0.mpr h0)] at hk
        show if (!decide (stages x y c 3 = "")) = true then _ else _
        rw [show (!decide (stages x y c 3 = "")) = false by simp [h0]]
        exact iteF hk
      · rw [show textF x y c = stages x y c 3 from if_neg fun z => h0 (str_len0.mp z)] at hk
        show if (!decide (stages x y c 3 = "")) = true then _ else _
        rw [show (!decide (stages x y c 3 = "")) = true by simp [h0]]
        exact iteT ⟨_, rfl, hk⟩
end
end N

set_option maxHeartbeats 4000000
namespace N
open PySem L2
def spIs (K : PySem.W.Frag) (C : Addr) : Sp := fun vs H Q _ => ∃ (a t : Addr) (x y c : Int), vs = [.ref a, .ref t] ∧ FormAt C H a x y c ∧ SqT K H t [.int x, .int y, .int c] ∧ Bd 1900 x ∧ Bd 1900 y ∧ Bd 1900 c ∧ ∀ H', Same H H' → Q (.bl true) H'
theorem eqvL3 (x y c : Int) : PyData.eqv (.list [.int x, .int y, .int c]) (.list [.int x, .int y, .int c]) = true := by
  show (x == x && (y == y && (c == c && true))) = _
  simp
theorem eqv2 (x y : Int) : PyData.eqv (.tuple [.int x, .int y]) (.tuple [.int 0, .int 0]) = (decide (x = 0) && decide (y = 0)) := by
  show (x == 0 && (y == 0 && true)) = _
  rw [Bool.eq_iff_iff]
  simp
theorem join3 (a b c : Str) : Txt.join ", " [a, b, c] = (((a ++ ", ") ++ b) ++ ", ") ++ c := by
  have e : Txt.join ", " [a, b, c] = Str.join ", " [a, b, c] := StrLaws.glued_eq_join _ _
  rw [e]
  show (a ++ ", ") ++ ((b ++ ", ") ++ c) = _
  simp only [Str.append_assoc]
section
variable {P : Program} {w : World} {K : PySem.W.Frag} {mg : Str → Option Value} {base : Heap} {C : Addr}
abbrev s__law_is : Stmt := top 22
theorem sc__law_is : FnScope ["_law_form", "_law_told", "_law_number_here"] ["_law_form", "_law_told"] (defScope s__law_is) := ⟨rfl, rfl, rfl, by decide +kernel, rfl, by decide +kernel, by decide +kernel⟩
theorem h_law_is (B : Blts mg) (T : FormC K mg C) (F : FunAt K mg "_law_is" "_law_is" s__law_is) (px : PX P w K mg base C) (py : PY P w K mg base C) (pc : PC' P w K mg base C)
    (pn : HasP P w K mg base C "is_number" 1 (spGet C fun x y _ => .bl (decide (x = 0) && decide (y = 0)))) (mS : HasM P w K mg base C "__str__" 3 ["self"] (spShow C textF)) (mR : HasM P w K mg base C "__repr__" 1 ["self"] (spShow C reprF))
    (h_law_text : Has P w K mg base "_law_text" 1 ["_law_told"] (spLText K)) : Has P w K mg base "_law_is" 6 ["_law_form", "_law_told"] (spIs K C) := by
  refine has_of F sc__law_is (fun _ _ _ _ _ _ us hl => match us, hl with | [_, _], _ => rfl) (fun vs H Q E h => ?_) (fun f cdv A outer s H vs Q E hr h => ?_)
  · obtain ⟨_, _, _, _, _, rfl, _⟩ := h
    rfl
  · obtain ⟨a, t, x, y, c, rfl, hf, hT, bx, b_y, bc, k⟩ := h
    refine ⟨_, (pss_cons (ps_if (PW.pt (pw_or (pt_cmpR (op_neD hr.units) (pe_lst (pa_cons (pe_hasP px T.cl (hr.mono (by decide)) (pv 0)) (pa_cons (pe_hasP py T.cl (hr.mono (by decide)) (pv 0)) (pa_cons (pe_hasP pc T.cl (hr.mono (by decide)) (pv 0)) pa_nil)))) (pe_callTy call_list_of (by rfl) B.n_list (by decide +kernel) (pa_cons (pv 1) pa_nil)) (by first | exact nomark _ | rfl)) (pw_or1 (pt_cmpR op_ne (pe_callTy (call_strF mS (hr.mono (by decide))) (by rfl) B.n_str (by decide +kernel) (pa_cons (pv 0) pa_nil)) (pe_has h_law_text (hr.mono (by decide)) (pa_cons (pv 1) pa_nil)) (by first | exact nomark _ | rfl))))) (pss_one (ps_ret pe_bl))
        pss_nil)
      (pss_cons (ps_if (pt_cmpR op_ne (pe_callB call_repr_bool (by rfl) B.n_repr (by decide +kernel) (pa_cons (pe_hasP pn T.cl (hr.mono (by decide)) (pv 0)) pa_nil)) (pe_callB call_repr_bool (by rfl) B.n_repr (by decide +kernel) (pa_cons (pe_cmpR (op_eqD hr.units) (pe_slice sl_tup (pv 1) po_none (po_some pe_int)) (pe_tup (pa_cons pe_int (pa_cons pe_int pa_nil))) (by first | exact nomark _ | rfl)) pa_nil)) (by first | exact nomark _ | rfl)) (pss_one (ps_ret pe_bl))
        pss_nil)
      (pss_one (ps_ret (pe_cmpR op_eq (pe_callB (call_reprF mR (hr.mono (by decide))) (by rfl) B.n_repr (by decide +kernel) (pa_cons (pv 0) pa_nil)) (pe_op op_add_str (pe_op op_add_str pe_str (pe_join pe_str (pe_lc (own := [("_law_number_here", 2)]) rfl sc__law_is.nd (pi_tup (pv 1)) (blkOk_by (own := [("_law_number_here", 2)]) (N := ["_law_form", "_law_told", "_law_number_here"]) (sc := defScope s__law_is) (by decide +kernel)) (fun _ _ _ _ _ => (pg_name (i := 2) sc__law_is.nd rfl (Or.inl rfl))) (fun _ _ _ _ _ => pts_nil) (fun _ _ _ _ _ => (pe_callTy call_str_int (by rfl) B.n_str (by decide +kernel) (pa_cons (pv 2) pa_nil)))))) pe_str) (by first | exact nomark _ | rfl)))))), ?_⟩
    obtain ⟨dx, ha⟩ := id hf
    refine ⟨_, rfl, a, dx, _, rfl, ha, a, x, y, c, rfl, hf, _, rfl, a, dx, _, rfl, ha, a, x, y, c, rfl, hf, _, rfl, a, dx, _, rfl, ha, a, x, y, c, rfl, hf, (by show 3 ≤ sizeLine; decide), fun l1 n1 => ?_⟩
    have s1 := Same.new (o := .lst [.int x, .int y, .int c]) n1
    refine ⟨_, rfl, t, _, rfl, .inr (s1.st hT), fun l2 n2 => ?_⟩
    have s2 := s1.trans (Same.new (o := .lst [.int x, .int y, .int c]) n2)
    refine ⟨.list [.int x, .int y, .int c], .list [.int x, .int y, .int c], .lst (.inl (.inl (Same.new n2 _ _ upd_same))) (.cons (.int x) (.cons (.int y) (.cons (.int c) .nil))), .lst (.inl (.inl upd_same)) (.cons (.int x) (.cons (.int y) (.cons (.int c) .nil))), rfl, rfl, _, rfl, ?_⟩
    rw [eqvL3]
    refine iteF ?_
    obtain ⟨d2, a2⟩ := hf.same s2
    refine ⟨_, rfl, a, d2, _, rfl, a2, a, x, y, c, rfl, ⟨d2, a2⟩, bx, b_y, bc, fun H3 s3 => ⟨_, rfl, ?_⟩⟩
    have s3' := s2.trans s3
    refine ⟨_, rfl, t, x, y, c, rfl, s3'.st hT, bx, b_y, bc, fun H4 s4 => ⟨rfl, _, rfl, ?_⟩⟩
    refine iteNS rfl ?_
    have s4' := s3'.trans s4
    obtain ⟨d4, a4⟩ := hf.same s4'
    refine ⟨_, rfl, a, d4, _, rfl, a4, a, x, y, c, rfl, ⟨d4, a4⟩, _, rfl, ?_⟩
    have e5 : cutV [.int x, .int y, .int c] none (some 2) = [.int x, .int y] := rfl
    refine ⟨_, rfl, _, rfl, t, _, rfl, s4'.st hT, (by show ¬ (HT.sIx 3 0 none = 0 ∧ HT.sIx 3 3 (some 2) = 3); decide), fun t5 n5 => ⟨(by show 2 ≤ sizeLine; decide), fun t6 n6 => ?_⟩⟩
    have s6 := (s4'.trans (Same.new (o := .tup [.int x, .int y]) n5)).trans (Same.new (o := .tup [.int 0, .int 0]) n6)
    refine ⟨.tuple [.int x, .int y], .tuple [.int 0, .int 0], .tup (.inl (.inl (Same.new n6 _ _ upd_same))) (.cons (.int x) (.cons (.int y) .nil)), .tup (.inl (.inl upd_same)) (.cons (.int 0) (.cons (.int 0) .nil)), rfl, rfl, _, rfl, rfl, _, rfl, ?_⟩
    rw [eqv2]
    refine iteNS rfl ?_
    obtain ⟨d6, a6⟩ := hf.same s6
    refine ⟨_, rfl, a, d6, _, rfl, a6, a, x, y, c, rfl, ⟨d6, a6⟩, bx, b_y, bc, fun H7 s7 => ⟨_, rfl, ?_⟩⟩
    have s7' := s6.trans s7
    have hT7 : SqT K H7 t [.int x, .int y, .int c] := s7'.st hT
    have l1 := num_len bx
    have l2 := num_len b_y
    have l3 := num_len bc
    refine ⟨⟨_, rfl⟩, _, rfl, t, rfl, ⟨_, hT7⟩, fun D nD => lc_map (walk_tup (K := K) (a := t) (xs := [.int x, .int y, .int c])) (fun i => .str (num ([x, y, c].getD i 0))) nD (by show 3 < 1000000; decide) (fun H s => s.st hT7) ?_ ?_⟩
    · rintro i z H8 H9 hi s8 ⟨rfl, hz⟩ R hR
      have hi3 : i < 3 := hi
      refine ⟨rfl, ?_⟩
      have hb : Bd 1900 ([x, y, c].getD i 0) ∧ z = V.int ([x, y, c].getD i 0) := by
        match i, hi3, hz with
        | 0, _, hz => exact ⟨bx, (Option.some.inj hz).symm⟩
        | 1, _, hz => exact ⟨b_y, (Option.some.inj hz).symm⟩
        | 2, _, hz => exact ⟨bc, (Option.some.inj hz).symm⟩
      obtain ⟨hb, rfl⟩ := hb
      exact ⟨_, rfl, _, rfl, hb.log (by decide) (by decide), hR _ (Same.refl _)⟩
    · rintro H8 s8 hD
      refine ⟨", ", D, [num x, num y, num c], rfl, rfl, .inl (SqL.of hD), ?_, _, _, rfl, rfl, ?_, _, _, rfl, rfl, ?_, rfl, ?_⟩
      · simp only [List.map_cons, List.map_nil, List.sum_cons, List.sum_nil, List.length_cons, List.length_nil, w2]
        omega
      · simp only [join3, Str.length_append, w1, w2, w3]
        exact small (by omega)
      · simp only [join3, Str.length_append, w1, w2, w3]
        exact small (by omega)
      · have e : reprF x y c = (("Form(" : Str) ++ Txt.join ", " [num x, num y, num c]) ++ ")" := by
          rw [join3]
          unfold reprF
          simp only [Str.empty_append, Str.append_assoc]
        rw [dec_str, decide_eq_true e]
        exact k _ (s7'.trans s8)
end
end N

set_option maxHeartbeats 4000000
namespace N
open PySem L2
def spNumber : Sp := fun vs H Q _ => ∃ p : Addr, vs = [.ref p] ∧ Pot H p ∧ ∀ d H', Bd 90 d → Pot H' p → But p H H' → Q (.int d) H'
def spNumbers : Sp := fun vs H Q _ => ∃ p : Addr, vs = [.ref p] ∧ Pot H p ∧ ∀ t x y c H', Bd 90 x → Bd 90 y → Bd 90 c → t ≠ p → H t = none → H' t = some (.tup [.int x, .int y, .int c]) → Pot H' p → But p H H' → Q (.ref t) H'
def spMade (K : PySem.W.Frag) (C : Addr) : Sp := fun vs H Q _ => ∃ (t : Addr) (x y c : Int), vs = [.ref t] ∧ SqT K H t [.int x, .int y, .int c] ∧ ∀ a H', H a = none → FormAt C H' a x y c → Same H H' → Q (.ref a) H'
def spValue (K : PySem.W.Frag) : Sp := fun vs H Q _ => ∃ (t u : Addr) (x y c a b : Int), vs = [.ref t, .ref u] ∧ SqT K H t [.int x, .int y, .int c] ∧ SqT K H u [.int a, .int b] ∧ Bd 900 x ∧ Bd 900 y ∧ Bd 900 a ∧ Bd 900 b ∧ Q (.int (x * a + y * b + c)) H
theorem bd_small {i : Int} (h0 : -1000000 < i) (h1 : i < 1000000) : Bd 90 i := by
  unfold Bd
  have : (1000000 : Nat) < 2 ^ 90 := by decide
  omega
section
variable {P : Program} {w : World} {K : PySem.W.Frag} {mg : Str → Option Value} {base : Heap} {C : Addr}
abbrev s__law_number : Stmt := top 17
theorem sc__law_number : FnScope ["_law_pot_here", "_law_number_here"] ["_law_pot_here"] (defScope s__law_number) := ⟨rfl, rfl, rfl, by decide +kernel, rfl, by decide +kernel, by decide +kernel⟩
theorem h_law_number (B : Blts mg) (F : FunAt K mg "_law_number" "_law_number" s__law_number) (h_law_draw : Has P w K mg base "_law_draw" 1 ["_law_pot_here", "_law_many"] spDraw) (h_law_pick : Has P w K mg base "_law_pick" 2 ["_law_pot_here", "_law_some"] (spPick K)) : Has P w K mg base "_law_number" 3 ["_law_pot_here"] spNumber := by
  refine has_of F sc__law_number (fun _ _ _ _ _ _ us hl => match us, hl with | [_], _ => rfl) (fun vs H Q E h => ?_) (fun f cdv A outer s H vs Q E hr h => ?_)
  · obtain ⟨_, rfl, _⟩ := h
    rfl
  · obtain ⟨p, rfl, hp, k⟩ := h
    refine ⟨_, (pss_cons (ps_set (i := 1) sc__law_number.nd rfl (Or.inl rfl) (pe_op op_sub (pe_has h_law_draw (hr.mono (by decide)) (pa_cons (pv 0) (pa_cons pe_int pa_nil))) pe_int))
      (pss_cons (ps_if (pt_cmpR op_eq (pe_has h_law_draw (hr.mono (by decide)) (pa_cons (pv 0) (pa_cons pe_int pa_nil))) pe_int (by first | exact nomark _ | rfl)) (pss_one (ps_set (i := 1) sc__law_number.nd rfl (Or.inl rfl) (pe_op op_mul (pe_has h_law_pick (hr.mono (by decide)) (pa_cons (pv 0) (pa_cons (pe_lst (pa_cons (pe_un un_neg pe_int) (pa_cons pe_int pa_nil))) pa_nil))) (pe_op op_add (pe_op op_pow pe_int pe_int) (pe_has h_law_draw (hr.mono (by decide)) (pa_cons (pv 0) (pa_cons pe_int pa_nil)))))))
        pss_nil)
      (pss_one (ps_ret (pv 1))))), ?_⟩
    refine ⟨_, rfl, p, 7, rfl, hp, by decide, by decide, fun d H1 d0 d1 hp1 e1 => ⟨_, _, rfl, rfl, ?_⟩⟩
    refine ⟨_, rfl, p, 5, rfl, hp1, by decide, by decide, fun z H2 z0 z1 hp2 e2 => ⟨rfl, _, rfl, ?_⟩⟩
    refine ite2 (fun _ => ?_) (fun _ => ?_)
    · refine ⟨_, rfl, _, rfl, (by show 2 ≤ sizeLine; decide), fun l nl => ⟨p, l, [.int (-1), .int 1], rfl, hp2.new nl, SqL.of upd_same, hp2.ne nl, by simp, by show 2 < 1000000; decide, fun v H3 hv hp3 e3 => ?_⟩⟩
      obtain ⟨sg, rfl, hs0, hs1⟩ : ∃ sg : Int, v = V.int sg ∧ -2 < sg ∧ sg < 2 := by
        rcases List.mem_cons.mp hv with e | hv
        · exact ⟨-1, e, by decide, by decide⟩
        · exact ⟨1, List.mem_singleton.mp hv, by decide, by decide⟩
      refine ⟨_, _, rfl, rfl, ⟨by decide, by decide, by decide⟩, _, rfl, p, 1000, rfl, hp3, by decide, by decide, fun g H4 g0 g1 hp4 e4 => ⟨_, _, rfl, rfl, _, _, rfl, rfl, .inl ⟨by omega, by omega⟩, ?_⟩⟩
      refine ⟨_, rfl, k _ _ ?_ hp4 (((e1.trans e2).trans (But.new nl)).trans (e3.trans e4))⟩
      have eb : (10 : Int) ^ (25 : Int).toNat = 10000000000000000000000000 := rfl
      rw [eb]
      have hb : Bd 2 sg := by
        unfold Bd
        omega
      have hg : Bd 85 (10000000000000000000000000 + g) := by
        unfold Bd
        have : (10000000000000000000001000 : Nat) < 2 ^ 85 := by decide
        omega
      exact (hb.mul hg).mono (by decide)
    · exact ⟨_, rfl, k _ _ (bd_small (by omega) (by omega)) hp2 (e1.trans e2)⟩
abbrev s__law_numbers : Stmt := top 18
theorem sc__law_numbers : FnScope ["_law_pot_here"] ["_law_pot_here"] (defScope s__law_numbers) := ⟨rfl, rfl, rfl, by decide +kernel, rfl, by decide +kernel, by decide +kernel⟩
theorem h_law_numbers (F : FunAt K mg "_law_numbers" "_law_numbers" s__law_numbers) (h_law_number : Has P w K mg base "_law_number" 3 ["_law_pot_here"] spNumber) : Has P w K mg base "_law_numbers" 4 ["_law_pot_here"] spNumbers := by
  refine has_of F sc__law_numbers (fun _ _ _ _ _ _ us hl => match us, hl with | [_], _ => rfl) (fun vs H Q E h => ?_) (fun f cdv A outer s H vs Q E hr h => ?_)
  · obtain ⟨_, rfl, _⟩ := h
    rfl
  · obtain ⟨p, rfl, hp, k⟩ := h
    refine ⟨_, (pss_one (ps_ret (pe_tup (pa_cons (pe_has h_law_number (hr.mono (by decide)) (pa_cons (pv 0) pa_nil)) (pa_cons (pe_has h_law_number (hr.mono (by decide)) (pa_cons (pv 0) pa_nil)) (pa_cons (pe_has h_law_number (hr.mono (by decide)) (pa_cons (pv 0) pa_nil)) pa_nil)))))), ?_⟩
    refine ⟨_, rfl, p, rfl, hp, fun x H1 bx hp1 e1 => ⟨_, rfl, p, rfl, hp1, fun y H2 b_y hp2 e2 => ⟨_, rfl, p, rfl, hp2, fun c H3 bc hp3 e3 => ⟨(by show 3 ≤ sizeLine; decide), fun t nt => ?_⟩⟩⟩⟩
    have e := (e1.trans e2).trans e3
    exact k t x y c _ bx b_y bc (hp3.ne nt) (e.free (hp3.ne nt) nt) upd_same (hp3.new nt) (e.trans (But.new nt))
abbrev s__law_made : Stmt := top 19
theorem sc__law_made : FnScope ["_law_told"] ["_law_told"] (defScope s__law_made) := ⟨rfl, rfl, rfl, by decide +kernel, rfl, by decide +kernel, by decide +kernel⟩
theorem h_law_made (F : FunAt K mg "_law_made" "_law_made" s__law_made) (hForm : HF P w K mg base C []) : Has P w K mg base "_law_made" 4 ["_law_told"] (spMade K C) := by
  refine has_of F sc__law_made (fun _ _ _ _ _ _ us hl => match us, hl with | [_], _ => rfl) (fun vs H Q E h => ?_) (fun f cdv A outer s H vs Q E hr h => ?_)
  · obtain ⟨_, _, _, _, rfl, _⟩ := h
    rfl
  · obtain ⟨t, x, y, c, rfl, hT, k⟩ := h
    refine ⟨_, (pss_one (ps_ret (pe_hasK hForm (hr.mono (by decide)) (pa_cons (pe_ix ix_tup (pv 0) pe_int (fun _ _ => rfl)) (pa_cons (pe_ix ix_tup (pv 0) pe_int (fun _ _ => rfl)) (pa_cons (pe_ix ix_tup (pv 0) pe_int (fun _ _ => rfl)) pa_nil)))))), ?_⟩
    exact ⟨_, rfl, t, _, 0, _, rfl, rfl, hT, rfl, _, rfl, t, _, 1, _, rfl, rfl, hT, rfl, _, rfl, t, _, 2, _, rfl, rfl, hT, rfl, made k⟩
abbrev s__law_value : Stmt := top 20
theorem sc__law_value : FnScope ["_law_told", "_law_point"] ["_law_told", "_law_point"] (defScope s__law_value) := ⟨rfl, rfl, rfl, by decide +kernel, rfl, by decide +kernel, by decide +kernel⟩
theorem h_law_value (F : FunAt K mg "_law_value" "_law_value" s__law_value) : Has P w K mg base "_law_value" 1 ["_law_told", "_law_point"] (spValue K) := by
  refine has_of F sc__law_value (fun _ _ _ _ _ _ us hl => match us, hl with | [_, _], _ => rfl) (fun vs H Q E h => ?_) (fun f cdv A outer s H vs Q E hr h => ?_)
  · obtain ⟨_, _, _, _, _, _, _, rfl, _⟩ := h
    rfl
  · obtain ⟨t, u, x, y, c, a, b, rfl, hT, hU, bx, b_y, ba, bb, q⟩ := h
    refine ⟨_, (pss_one (ps_ret (pe_op op_add (pe_op op_add (pe_op op_mulW (pe_ix ix_tup (pv 0) pe_int (fun _ _ => rfl)) (pe_ix ix_tup (pv 1) pe_int (fun _ _ => rfl))) (pe_op op_mulW (pe_ix ix_tup (pv 0) pe_int (fun _ _ => rfl)) (pe_ix ix_tup (pv 1) pe_int (fun _ _ => rfl)))) (pe_ix ix_tup (pv 0) pe_int (fun _ _ => rfl))))), ?_⟩
    refine ⟨_, rfl, t, _, 0, _, rfl, rfl, hT, rfl, _, rfl, u, _, 0, _, rfl, rfl, hU, rfl, _, _, rfl, rfl, bx.w ba (by decide) (by decide) (by decide), ?_⟩
    refine ⟨_, rfl, t, _, 1, _, rfl, rfl, hT, rfl, _, rfl, u, _, 1, _, rfl, rfl, hU, rfl, _, _, rfl, rfl, b_y.w bb (by decide) (by decide) (by decide), _, _, rfl, rfl, ?_⟩
    exact ⟨_, rfl, t, _, 2, _, rfl, rfl, hT, rfl, _, _, rfl, rfl, q⟩
end
end N

set_option maxHeartbeats 4000000
namespace N
open PySem L2
def spSum (K : PySem.W.Frag) (C : Addr) : Sp := fun vs H Q _ => ∃ (f g t u : Addr) (x y c x' y' c' : Int), vs = [.ref f, .ref g, .ref t, .ref u] ∧ FormAt C H f x y c ∧ FormAt C H g x' y' c' ∧ SqT K H t [.int x, .int y, .int c] ∧ SqT K H u [.int x', .int y', .int c'] ∧
  Bd 90 x ∧ Bd 90 y ∧ Bd 90 c ∧ Bd 90 x' ∧ Bd 90 y' ∧ Bd 90 c' ∧ ∀ H', Same H H' → Q (.bl true) H'
theorem Same.but {H H' : Hp} {p : Addr} (h : Same H H') : But p H H' := fun b o e _ => h b o e
section
variable {P : Program} {w : World} {K : PySem.W.Frag} {mg : Str → Option Value} {base : Heap} {C : Addr}
abbrev s__law_sum_right : Stmt := top 23
theorem sc__law_sum_right : FnScope ["_law_form", "_law_two", "_law_near", "_law_far", "_law_number_here", "_law_due", "_law_one", "_law_more", "_law_less"] ["_law_form", "_law_two", "_law_near", "_law_far"] (defScope s__law_sum_right) := ⟨rfl, rfl, rfl, by decide +kernel, rfl, by decide +kernel, by decide +kernel⟩
theorem h_law_sum_right (B : Blts mg) (T : FormC K mg C) (O : FormOps K C) (F : FunAt K mg "_law_sum_right" "_law_sum_right" s__law_sum_right) (mA : HasM P w K mg base C "__add__" 5 ["self", "other"] (spBin C (· + ·))) (mSb : HasM P w K mg base C "__sub__" 5 ["self", "other"] (spBin C (· - ·)))
    (mN : HasM P w K mg base C "__neg__" 4 ["self"] (spNeg C)) (mM : HasM P w K mg base C "__mul__" 4 ["self", "other"] (spMul C)) (h_law_is : Has P w K mg base "_law_is" 6 ["_law_form", "_law_told"] (spIs K C)) :
    Has P w K mg base "_law_sum_right" 7 ["_law_form", "_law_two", "_law_near", "_law_far"] (spSum K C) := by
  refine has_of F sc__law_sum_right (fun _ _ _ _ _ _ us hl => match us, hl with | [_, _, _, _], _ => rfl) (fun vs H Q E h => ?_) (fun f cdv A outer s H vs Q E hr h => ?_)
  · obtain ⟨_, _, _, _, _, _, _, _, _, _, rfl, _⟩ := h
    rfl
  · obtain ⟨f, g, t, u, x, y, c, x', y', c', rfl, hf, hg, hT, hU, bx, b_y, bc, bx', b_y', bc', k⟩ := h
    refine ⟨_, (pss_cons (ps_set (i := 4) sc__law_sum_right.nd rfl (Or.inr rfl) (pe_ix ix_tup (pv 3) pe_int (fun _ _ => rfl)))
      (pss_cons (ps_set (i := 5) sc__law_sum_right.nd rfl (Or.inl rfl) (pe_callTy call_tuple_of (by rfl) B.n_tuple (by decide +kernel) (pa_cons (pe_lc (own := [("_law_one", 6), ("_law_more", 7)]) rfl sc__law_sum_right.nd (RZ.pi_zipA (by rfl) B.n_zip (pa_cons (pv 2) (pa_cons (pv 3) pa_nil))) (blkOk_by (own := [("_law_one", 6), ("_law_more", 7)]) (N := ["_law_form", "_law_two", "_law_near", "_law_far", "_law_number_here", "_law_due", "_law_one", "_law_more", "_law_less"]) (sc := defScope s__law_sum_right) (by decide +kernel)) (fun _ _ _ _ _ => by exact (pg_tupK K 2 rfl rfl (pgs_cons (pg_name (i := 6) sc__law_sum_right.nd rfl (Or.inl rfl)) (pgs_cons (pg_name (i := 7) sc__law_sum_right.nd rfl (Or.inl rfl)) pgs_nil)))) (fun _ _ _ _ _ => by exact pts_nil) (fun _ _ _ _ _ => by exact (pe_op op_add (pv 6) (pv 7)))) pa_nil)))
      (pss_cons (ps_set (i := 8) sc__law_sum_right.nd rfl (Or.inl rfl) (pe_callTy call_tuple_of (by rfl) B.n_tuple (by decide +kernel) (pa_cons (pe_lc (own := [("_law_one", 6), ("_law_more", 7)]) rfl sc__law_sum_right.nd (RZ.pi_zipA (by rfl) B.n_zip (pa_cons (pv 2) (pa_cons (pv 3) pa_nil))) (blkOk_by (own := [("_law_one", 6), ("_law_more", 7)]) (N := ["_law_form", "_law_two", "_law_near", "_law_far", "_law_number_here", "_law_due", "_law_one", "_law_more", "_law_less"]) (sc := defScope s__law_sum_right) (by decide +kernel)) (fun _ _ _ _ _ => by exact (pg_tupK K 2 rfl rfl (pgs_cons (pg_name (i := 6) sc__law_sum_right.nd rfl (Or.inl rfl)) (pgs_cons (pg_name (i := 7) sc__law_sum_right.nd rfl (Or.inl rfl)) pgs_nil)))) (fun _ _ _ _ _ => by exact pts_nil) (fun _ _ _ _ _ => by exact (pe_op op_sub (pv 6) (pv 7)))) pa_nil)))
      (pss_cons (ps_if (PW.pt (pw_or (pt_not (pt_val (pe_has h_law_is (hr.mono (by decide)) (pa_cons (pe_op (op_addF T O mA (hr.mono (by decide))) (pv 0) (pv 1)) (pa_cons (pv 5) pa_nil))))) (pw_or1 (pt_not (pt_val (pe_has h_law_is (hr.mono (by decide)) (pa_cons (pe_op (op_subF T O mSb (hr.mono (by decide))) (pv 0) (pv 1)) (pa_cons (pv 8) pa_nil)))))))) (pss_one (ps_ret pe_bl))
        pss_nil)
      (pss_cons (ps_if (pt_not (pt_val (pe_has h_law_is (hr.mono (by decide)) (pa_cons (pe_op (op_addI T O mA (hr.mono (by decide))) (pv 0) (pv 4)) (pa_cons (pe_op op_catA (pe_slice sl_tup (pv 2) po_none (po_some pe_int)) (pe_tup (pa_cons (pe_op op_add (pe_ix ix_tup (pv 2) pe_int (fun _ _ => rfl)) (pv 4)) pa_nil))) pa_nil))))) (pss_one (ps_ret pe_bl))
        pss_nil)
      (pss_cons (ps_if (pt_not (pt_val (pe_has h_law_is (hr.mono (by decide)) (pa_cons (pe_op (op_subI T O mSb (hr.mono (by decide))) (pv 0) (pv 4)) (pa_cons (pe_op op_catA (pe_slice sl_tup (pv 2) po_none (po_some pe_int)) (pe_tup (pa_cons (pe_op op_sub (pe_ix ix_tup (pv 2) pe_int (fun _ _ => rfl)) (pv 4)) pa_nil))) pa_nil))))) (pss_one (ps_ret pe_bl))
        pss_nil)
      (pss_cons (ps_if (pt_not (pt_val (pe_has h_law_is (hr.mono (by decide)) (pa_cons (pe_un (un_negF T mN (hr.mono (by decide))) (pv 0)) (pa_cons (pe_callTy call_tuple_of (by rfl) B.n_tuple (by decide +kernel) (pa_cons (pe_lc (own := [("_law_one", 6)]) rfl sc__law_sum_right.nd (pi_tup (pv 2)) (blkOk_by (own := [("_law_one", 6)]) (N := ["_law_form", "_law_two", "_law_near", "_law_far", "_law_number_here", "_law_due", "_law_one", "_law_more", "_law_less"]) (sc := defScope s__law_sum_right) (by decide +kernel)) (fun _ _ _ _ _ => by exact (pg_name (i := 6) sc__law_sum_right.nd rfl (Or.inl rfl))) (fun _ _ _ _ _ => by exact pts_nil) (fun _ _ _ _ _ => by exact (pe_un un_neg (pv 6)))) pa_nil)) pa_nil))))) (pss_one (ps_ret pe_bl))
        pss_nil)
      (pss_one (ps_ret (pe_and (pe_has h_law_is (hr.mono (by decide)) (pa_cons (pe_op (op_mulI T O mM (hr.mono (by decide))) (pv 0) (pv 4)) (pa_cons (pe_callTy call_tuple_of (by rfl) B.n_tuple (by decide +kernel) (pa_cons (pe_lc (own := [("_law_one", 6)]) rfl sc__law_sum_right.nd (pi_tup (pv 2)) (blkOk_by (own := [("_law_one", 6)]) (N := ["_law_form", "_law_two", "_law_near", "_law_far", "_law_number_here", "_law_due", "_law_one", "_law_more", "_law_less"]) (sc := defScope s__law_sum_right) (by decide +kernel)) (fun _ _ _ _ _ => by exact (pg_name (i := 6) sc__law_sum_right.nd rfl (Or.inl rfl))) (fun _ _ _ _ _ => by exact pts_nil) (fun _ _ _ _ _ => by exact (pe_op op_mulW (pv 6) (pv 4)))) pa_nil)) pa_nil))) (pe_one (pe_has h_law_is (hr.mono (by decide)) (pa_cons (pe_op (op_mulI T O mM (hr.mono (by decide))) (pv 0) pe_int) (pa_cons (pe_tup (pa_cons pe_int (pa_cons pe_int (pa_cons pe_int pa_nil)))) pa_nil)))))))))))))), ?_⟩
    refine ⟨_, rfl, u, _, 2, _, rfl, rfl, hU, rfl, ?_⟩
    -- the two zipped lists
    refine ⟨_, rfl, _, rfl, t, u, _, _, rfl, .inr ⟨hT, hU, fun D nD => lc_map (walk_zipT (K := K) (a := t) (b := u) (xs := [.int x, .int y, .int c]) (ys := [.int x', .int y', .int c']) (n := 3) rfl) (fun i => .int ([x, y, c].getD i 0 + [x', y', c'].getD i 0)) nD (by decide) (fun H s => ⟨s.st hT, s.st hU⟩) ?_ ?_⟩⟩
    · rintro i z H8 H9 hi s8 ⟨T1, z1, z2, rfl, n1, rfl, e1, e2⟩ R hR
      refine ⟨T1, _, rfl, SqT.of upd_same, rfl, _, _, rfl, _, _, rfl, rfl, rfl, ?_⟩
      have ez1 : z1 = V.int ([x, y, c].getD i 0) := by
        match i, hi, e1 with
        | 0, _, e => exact (Option.some.inj e).symm
        | 1, _, e => exact (Option.some.inj e).symm
        | 2, _, e => exact (Option.some.inj e).symm
      have ez2 : z2 = V.int ([x', y', c'].getD i 0) := by
        match i, hi, e2 with
        | 0, _, e => exact (Option.some.inj e).symm
        | 1, _, e => exact (Option.some.inj e).symm
        | 2, _, e => exact (Option.some.inj e).symm
      subst ez1 ez2
      exact ⟨_, rfl, _, rfl, _, _, rfl, rfl, hR _ (Same.new n1)⟩
    rintro H1 s1 hD
    refine ⟨D, _, rfl, .inl ⟨SqL.of hD, fun d1 nd1 => ?_⟩⟩
    have s2 := s1.trans (Same.new (o := .tup ((List.range 3).map fun i => V.int ([x, y, c].getD i 0 + [x', y', c'].getD i 0))) nd1)
    refine ⟨_, rfl, _, rfl, t, u, _, _, rfl, .inr ⟨s2.st hT, s2.st hU, fun D2 nD2 => lc_map (walk_zipT (K := K) (a := t) (b := u) (xs := [.int x, .int y, .int c]) (ys := [.int x', .int y', .int c']) (n := 3) rfl) (fun i => .int ([x, y, c].getD i 0 - [x', y', c'].getD i 0)) nD2 (by decide) (fun H s => ⟨s.st (s2.st hT), s.st (s2.st hU)⟩) ?_ ?_⟩⟩
    · rintro i z H8 H9 hi s8 ⟨T1, z1, z2, rfl, n1, rfl, e1, e2⟩ R hR
      refine ⟨T1, _, rfl, SqT.of upd_same, rfl, _, _, rfl, _, _, rfl, rfl, rfl, ?_⟩
      have ez1 : z1 = V.int ([x, y, c].getD i 0) := by
        match i, hi, e1 with
        | 0, _, e => exact (Option.some.inj e).symm
        | 1, _, e => exact (Option.some.inj e).symm
        | 2, _, e => exact (Option.some.inj e).symm
      have ez2 : z2 = V.int ([x', y', c'].getD i 0) := by
        match i, hi, e2 with
        | 0, _, e => exact (Option.some.inj e).symm
        | 1, _, e => exact (Option.some.inj e).symm
        | 2, _, e => exact (Option.some.inj e).symm
      subst ez1 ez2
      exact ⟨_, rfl, _, rfl, _, _, rfl, rfl, hR _ (Same.new n1)⟩
    rintro H3 s3 hD2
    refine ⟨D2, _, rfl, .inl ⟨SqL.of hD2, fun d2 nd2 => ?_⟩⟩
    have s4 := s3.trans (Same.new (o := .tup ((List.range 3).map fun i => V.int ([x, y, c].getD i 0 - [x', y', c'].getD i 0))) nd2)
    have hd1 : SqT K (upd H3 d2 (.tup ((List.range 3).map fun i => V.int ([x, y, c].getD i 0 - [x', y', c'].getD i 0)))) d1 [.int (x + x'), .int (y + y'), .int (c + c')] := s4.st (SqT.of upd_same)
    have hd2 : SqT K (upd H3 d2 (.tup ((List.range 3).map fun i => V.int ([x, y, c].getD i 0 - [x', y', c'].getD i 0)))) d2 [.int (x - x'), .int (y - y'), .int (c - c')] := SqT.of upd_same
    have s5 := s2.trans s4
    generalize hH5 : upd H3 d2 (.tup ((List.range 3).map fun i => V.int ([x, y, c].getD i 0 - [x', y', c'].getD i 0))) = H5 at hd1 hd2 s4 s5
    -- form + two, form - two
    obtain ⟨df, f5⟩ := hf.same s5
    obtain ⟨dg, g5⟩ := hg.same s5
    refine ⟨_, rfl, _, rfl, f, df, _, g, dg, _, rfl, rfl, f5, g5, f, .ref g, _, _, _, _, _, _, rfl, ⟨df, f5⟩, .inl ⟨g, rfl, ⟨dg, g5⟩⟩, fun r1 H6 _ hr1 s6 => ?_⟩
    refine ⟨_, rfl, r1, d1, _, _, _, rfl, hr1, s6.st hd1, (bx.add bx').mono (by decide), (b_y.add b_y').mono (by decide), (bc.add bc').mono (by decide), fun H7 s7 => ⟨true, rfl, ?_⟩⟩
    refine iteF ?_
    have s7' := (s5.trans s6).trans s7
    obtain ⟨df7, f7⟩ := hf.same s7'
    obtain ⟨dg7, g7⟩ := hg.same s7'
    refine ⟨_, rfl, _, rfl, f, df7, _, g, dg7, _, rfl, rfl, f7, g7, f, .ref g, _, _, _, _, _, _, rfl, ⟨df7, f7⟩, .inl ⟨g, rfl, ⟨dg7, g7⟩⟩, fun r2 H8 _ hr2 s8 => ?_⟩
    refine ⟨_, rfl, r2, d2, _, _, _, rfl, hr2, (s6.trans (s7.trans s8)).st hd2, (bx.sub bx').mono (by decide), (b_y.sub b_y').mono (by decide), (bc.sub bc').mono (by decide), fun H9 s9 => ⟨true, rfl, ?_⟩⟩
    refine iteF ?_
    have s9' := (s7'.trans s8).trans s9
    -- form + number
    obtain ⟨df9, f9⟩ := hf.same s9'
    refine ⟨_, rfl, _, rfl, f, df9, _, c', rfl, rfl, f9, f, .int c', _, _, _, 0, 0, c', rfl, ⟨df9, f9⟩, .inr ⟨rfl, rfl, rfl⟩, fun r3 H10 _ hr3 s10 => ?_⟩
    have s10' := s9'.trans s10
    refine ⟨_, rfl, _, rfl, t, _, rfl, s10'.st hT, (by show ¬ (HT.sIx 3 0 none = 0 ∧ HT.sIx 3 3 (some 2) = 3); decide), fun p1 np1 => ?_⟩
    have s11 := Same.new (o := .tup [.int x, .int y]) np1
    refine ⟨_, rfl, t, _, 2, _, rfl, rfl, s11.st (s10'.st hT), rfl, _, rfl, _, _, rfl, rfl, (by show 1 ≤ sizeLine; decide), fun p2 np2 => ?_⟩
    have s12 := s11.trans (Same.new (o := .tup [.int (c + c')]) np2)
    refine ⟨p1, p2, [.int x, .int y], [.int (c + c')], rfl, rfl, SqT.of (Same.new np2 _ _ upd_same), SqT.of upd_same, (by show 3 ≤ sizeLine; decide), (fun z => by cases z), (fun _ z => by cases z), fun _ _ p3 np3 => ?_⟩
    have s13 := s12.trans (Same.new (o := .tup [.int x, .int y, .int (c + c')]) np3)
    have hr3' : FormAt C H10 r3 x y (c + c') := by simpa only [Int.add_zero] using hr3
    refine ⟨r3, p3, x, y, c + c', rfl, hr3'.same s13, SqT.of upd_same, bx.mono (by decide), b_y.mono (by decide), (bc.add bc').mono (by decide), fun H14 s14 => ⟨true, rfl, ?_⟩⟩
    refine iteF ?_
    have s14' := (s10'.trans s13).trans s14
    -- form - number
    obtain ⟨dg9, k9⟩ := hf.same s14'
    refine ⟨_, rfl, _, rfl, f, dg9, _, c', rfl, rfl, k9, f, .int c', _, _, _, 0, 0, c', rfl, ⟨dg9, k9⟩, .inr ⟨rfl, rfl, rfl⟩, fun r4 K10 _ hr4 t10 => ?_⟩
    have t10' := s14'.trans t10
    refine ⟨_, rfl, _, rfl, t, _, rfl, t10'.st hT, (by show ¬ (HT.sIx 3 0 none = 0 ∧ HT.sIx 3 3 (some 2) = 3); decide), fun q1 nq1 => ?_⟩
    have t11 := Same.new (o := .tup [.int x, .int y]) nq1
    refine ⟨_, rfl, t, _, 2, _, rfl, rfl, t11.st (t10'.st hT), rfl, _, rfl, _, _, rfl, rfl, (by show 1 ≤ sizeLine; decide), fun q2 nq2 => ?_⟩
    have t12 := t11.trans (Same.new (o := .tup [.int (c - c')]) nq2)
    refine ⟨q1, q2, [.int x, .int y], [.int (c - c')], rfl, rfl, SqT.of (Same.new nq2 _ _ upd_same), SqT.of upd_same, (by show 3 ≤ sizeLine; decide), (fun z => by cases z), (fun _ z => by cases z), fun _ _ q3 nq3 => ?_⟩
    have t13 := t12.trans (Same.new (o := .tup [.int x, .int y, .int (c - c')]) nq3)
    have hr4' : FormAt C K10 r4 x y (c - c') := by simpa only [Int.sub_zero] using hr4
    refine ⟨r4, q3, x, y, c - c', rfl, hr4'.same t13, SqT.of upd_same, bx.mono (by decide), b_y.mono (by decide), (bc.sub bc').mono (by decide), fun K14 t14 => ⟨true, rfl, ?_⟩⟩
    refine iteF ?_
    have t14' := (t10'.trans t13).trans t14
    -- the opposite
    obtain ⟨d20, f20⟩ := hf.same t14'
    refine ⟨_, rfl, f, d20, _, rfl, f20, f, x, y, c, rfl, ⟨d20, f20⟩, fun r5 K15 _ hr5 u1 => ?_⟩
    have u1' := t14'.trans u1
    refine ⟨_, rfl, t, rfl, ⟨_, u1'.st hT⟩, fun D3 nD3 => lc_map (walk_tup (K := K) (a := t) (xs := [.int x, .int y, .int c])) (fun i => .int (-([x, y, c].getD i 0))) nD3 (by show 3 < 1000000; decide) (fun H s => s.st (u1'.st hT)) ?_ ?_⟩
    · rintro i z L8 L9 hi w8 ⟨rfl, hz⟩ R hR
      refine ⟨rfl, ?_⟩
      have ez : z = V.int ([x, y, c].getD i 0) := by
        match i, hi, hz with
        | 0, _, hz => exact (Option.some.inj hz).symm
        | 1, _, hz => exact (Option.some.inj hz).symm
        | 2, _, hz => exact (Option.some.inj hz).symm
      subst ez
      exact ⟨_, rfl, _, rfl, hR _ (Same.refl _)⟩
    rintro K16 u2 hD3
    refine ⟨D3, _, rfl, .inl ⟨SqL.of hD3, fun d3 nd3 => ?_⟩⟩
    have u3 := u2.trans (Same.new (o := .tup ((List.range 3).map fun i => V.int (-([x, y, c].getD i 0)))) nd3)
    refine ⟨r5, d3, -x, -y, -c, rfl, hr5.same u3, SqT.of upd_same, bx.neg.mono (by decide), b_y.neg.mono (by decide), bc.neg.mono (by decide), fun K17 u4 => ⟨true, rfl, ?_⟩⟩
    refine iteF ?_
    have u4' := (u1'.trans u3).trans u4
    -- a multiple
    obtain ⟨d21, f21⟩ := hf.same u4'
    refine ⟨_, rfl, _, rfl, f, d21, _, c', rfl, rfl, f21, f, x, y, c, c', rfl, ⟨d21, f21⟩, bx.mono (by decide), b_y.mono (by decide), bc.mono (by decide), bc'.mono (by decide), fun r6 K18 _ hr6 u5 => ?_⟩
    have u5' := u4'.trans u5
    refine ⟨_, rfl, t, rfl, ⟨_, u5'.st hT⟩, fun D4 nD4 => lc_map (walk_tup (K := K) (a := t) (xs := [.int x, .int y, .int c])) (fun i => .int ([x, y, c].getD i 0 * c')) nD4 (by show 3 < 1000000; decide) (fun H s => s.st (u5'.st hT)) ?_ ?_⟩
    · rintro i z L8 L9 hi w8 ⟨rfl, hz⟩ R hR
      refine ⟨rfl, ?_⟩
      have ez : z = V.int ([x, y, c].getD i 0) ∧ Bd 90 ([x, y, c].getD i 0) := by
        match i, hi, hz with
        | 0, _, hz => exact ⟨(Option.some.inj hz).symm, bx⟩
        | 1, _, hz => exact ⟨(Option.some.inj hz).symm, b_y⟩
        | 2, _, hz => exact ⟨(Option.some.inj hz).symm, bc⟩
      obtain ⟨rfl, hbz⟩ := ez
      exact ⟨_, rfl, _, rfl, _, _, rfl, rfl, hbz.w bc' (by decide) (by decide) (by decide), hR _ (Same.refl _)⟩
    rintro K19 u6 hD4
    refine ⟨D4, _, rfl, .inl ⟨SqL.of hD4, fun d4 nd4 => ?_⟩⟩
    have u7 := u6.trans (Same.new (o := .tup ((List.range 3).map fun i => V.int ([x, y, c].getD i 0 * c'))) nd4)
    refine ⟨r6, d4, x * c', y * c', c * c', rfl, hr6.same u7, SqT.of upd_same, (bx.mul bc').mono (by decide), (b_y.mul bc').mono (by decide), (bc.mul bc').mono (by decide), fun K20 u8 => ⟨true, rfl, ?_⟩⟩
    refine iteT ?_
    have u8' := (u5'.trans u7).trans u8
    obtain ⟨d22, f22⟩ := hf.same u8'
    refine ⟨_, rfl, f, d22, _, 0, rfl, rfl, f22, f, x, y, c, 0, rfl, ⟨d22, f22⟩, bx.mono (by decide), b_y.mono (by decide), bc.mono (by decide), Bd.zero, fun r7 K21 _ hr7 u9 => ?_⟩
    have hr7' : FormAt C K21 r7 0 0 0 := by simpa only [Int.mul_zero] using hr7
    refine ⟨(by show 3 ≤ sizeLine; decide), fun d5 nd5 => ?_⟩
    have u10 := Same.new (o := .tup [.int 0, .int 0, .int 0]) nd5
    exact ⟨r7, d5, 0, 0, 0, rfl, hr7'.same u10, SqT.of upd_same, Bd.zero, Bd.zero, Bd.zero, fun K22 u11 => k _ (((u8'.trans u9).trans u10).trans u11)⟩
end
end N

set_option maxHeartbeats 8000000
namespace N
open PySem L2
def spRight : Sp := fun vs H Q _ => ∃ p : Addr, vs = [.ref p] ∧ Pot H p ∧ ∀ H', Pot H' p → But p H H' → Q (.bl true) H'
theorem no_at (x y c : Int) : (ff x y c).lookup ("at" : Str) = none := ff_no _ _ _ (by decide +kernel) (by decide +kernel) (by decide +kernel)
theorem no_put (x y c : Int) : (ff x y c).lookup ("put" : Str) = none := ff_no _ _ _ (by decide +kernel) (by decide +kernel) (by decide +kernel)
theorem Pot.same {H H' : Hp} {p : Addr} (h : Pot H p) (s : Same H H') : Pot H' p := by
  obtain ⟨a, b, e, r⟩ := h
  exact ⟨a, b, s _ _ e, r⟩
theorem madeS {C q dq : Addr} {H1 H' : Hp} (nq : H1 q = none) (nd : H1 dq = none) (e : But q (upd (upd H1 dq (.own q)) q (.ins C dq [])) H') : Same H1 H' := fun b o hb =>
  e b o (by rw [upd_ne (ne_of_none hb nq), upd_ne (ne_of_none hb nd)]; exact hb) (ne_of_none hb nq)
theorem tyT {K : PySem.W.Frag} {H : Hp} {t : Addr} {xs : List V} (h : SqT K H t xs) : TyX K H (.ref t) (.type "tuple") := by
  rcases h with (h | ⟨o, h⟩) | ⟨o, its, n, hk, hc, _⟩
  · exact .base (.tup h)
  · exact .fTuple h
  · exact .kTuple hk hc
abbrev HD (P : Program) (w : World) (K : PySem.W.Frag) (mg : Str → Option Value) (base : Heap) (C : Addr) (dvs : List V) : Prop := HasD P w K mg base C "at" 2 ["self", "x", "y"] (spAt C) dvs
theorem mix1 (x1 y1 c1 x2 y2 c2 x3 y3 c3 u v : Int) : (x1 * x2 + y1 * x3) * u + (x1 * y2 + y1 * y3) * v + (x1 * c2 + y1 * c3 + c1) = x1 * (x2 * u + y2 * v + c2) + y1 * (x3 * u + y3 * v + c3) + c1 := by grind
theorem mix2 (x1 y1 x2 x3 : Int) : x2 * x1 + x3 * y1 = x1 * x2 + y1 * x3 := by grind
theorem mix3 (x1 y1 c1 c2 c3 : Int) : c2 * x1 + c3 * y1 + c1 = x1 * c2 + y1 * c3 + c1 := by grind
theorem eqvT (x y c x' y' c' : Int) : PyData.eqv (.tuple [.int x, .int y, .int c]) (.tuple [.int x', .int y', .int c']) = decide (x = x' ∧ y = y' ∧ c = c') := eqv3 x y c x' y' c'
section
variable {P : Program} {w : World} {K : PySem.W.Frag} {mg : Str → Option Value} {base : Heap} {C : Addr}
abbrev s__law_right : Stmt := top 24
theorem sc__law_right : FnScope ["_law_pot_here", "_law_lists", "_law_turn", "_law_near", "_law_far", "_law_third", "_law_form", "_law_two", "_law_three", "_law_point", "_law_mixed", "_law_inner", "_law_due"] ["_law_pot_here"] (defScope s__law_right) := ⟨rfl, rfl, rfl, by decide +kernel, rfl, by decide +kernel, by decide +kernel⟩
theorem h_law_right (B : Blts mg) (T : FormC K mg C) (O : FormOps K C) (F : FunAt K mg "_law_right" "_law_right" s__law_right)
    (h_law_numbers : Has P w K mg base "_law_numbers" 4 ["_law_pot_here"] spNumbers) (h_law_number : Has P w K mg base "_law_number" 3 ["_law_pot_here"] spNumber) (h_law_made : Has P w K mg base "_law_made" 4 ["_law_told"] (spMade K C))
    (h_law_value : Has P w K mg base "_law_value" 1 ["_law_told", "_law_point"] (spValue K)) (h_law_is : Has P w K mg base "_law_is" 6 ["_law_form", "_law_told"] (spIs K C)) (h_law_sum_right : Has P w K mg base "_law_sum_right" 7 ["_law_form", "_law_two", "_law_near", "_law_far"] (spSum K C))
    (dA2 : HD P w K mg base C []) (dA1 : HD P w K mg base C [.int 0]) (mP : HasM P w K mg base C "put" 6 ["self", "first", "second"] (spPut C)) (mE : HasM P w K mg base C "__eq__" 4 ["self", "other"] (spEq K C)) (mS : HasM P w K mg base C "__str__" 3 ["self"] (spShow C textF))
    (hForm0 : HF P w K mg base C [.int 0, .int 0, .int 0]) (hForm1 : HF P w K mg base C [.int 0, .int 0]) (hForm2 : HF P w K mg base C [.int 0]) (hForm3 : HF P w K mg base C []) :
    Has P w K mg base "_law_right" 8 ["_law_pot_here"] spRight := by
  refine has_of F sc__law_right (fun _ _ _ _ _ _ us hl => match us, hl with | [_], _ => rfl) (fun vs H Q E h => ?_) (fun f cdv A outer s H vs Q E hr h => ?_)
  · obtain ⟨_, rfl, _⟩ := h
    rfl
  · obtain ⟨p, rfl, hp, k⟩ := h
    refine ⟨_, (pss_cons (ps_setLc (i := 1) (own := [("_law_turn", 2)]) rfl sc__law_right.nd rfl rfl (sw_true rfl rfl rfl (by decide +kernel)) (pi_range1 (by rfl) B.n_range (pa_cons pe_int pa_nil)) (blkOk_by (own := [("_law_turn", 2)]) (N := ["_law_pot_here", "_law_lists", "_law_turn", "_law_near", "_law_far", "_law_third", "_law_form", "_law_two", "_law_three", "_law_point", "_law_mixed", "_law_inner", "_law_due"]) (sc := defScope s__law_right) (by decide +kernel)) (fun _ _ _ _ _ => by exact (pg_name (i := 2) sc__law_right.nd rfl (Or.inl rfl))) (fun _ _ _ _ _ => by exact pts_nil) (fun _ _ _ _ _ => by exact (pe_has h_law_numbers (hr.mono (by decide)) (pa_cons (pv 0) pa_nil))))
      (pss_cons (ps_asg (pv 1) (pg_unl rfl (pgs_cons (pg_name (i := 3) sc__law_right.nd rfl (Or.inl rfl)) (pgs_cons (pg_name (i := 4) sc__law_right.nd rfl (Or.inl rfl)) (pgs_cons (pg_name (i := 5) sc__law_right.nd rfl (Or.inl rfl)) pgs_nil)))))
      (pss_cons (ps_par3 (i := 6) (j := 7) (l := 8) (by rfl) sc__law_right.nd rfl rfl rfl (by decide) (by decide) (by decide) rfl rfl rfl (pa_cons (pe_has h_law_made (hr.mono (by decide)) (pa_cons (pv 3) pa_nil)) (pa_cons (pe_has h_law_made (hr.mono (by decide)) (pa_cons (pv 4) pa_nil)) (pa_cons (pe_has h_law_made (hr.mono (by decide)) (pa_cons (pv 5) pa_nil)) pa_nil))) (by rfl))
      (pss_cons (ps_if (PW.pt (pw_or (pt_not (pt_val (pe_has h_law_is (hr.mono (by decide)) (pa_cons (pv 6) (pa_cons (pv 3) pa_nil))))) (pw_or (pt_not (pt_val (pe_has h_law_is (hr.mono (by decide)) (pa_cons (pv 7) (pa_cons (pv 4) pa_nil))))) (pw_or1 (pt_not (pt_val (pe_has h_law_sum_right (hr.mono (by decide)) (pa_cons (pv 6) (pa_cons (pv 7) (pa_cons (pv 3) (pa_cons (pv 4) pa_nil))))))))))) (pss_one (ps_ret pe_bl))
        pss_nil)
      (pss_cons (ps_set (i := 9) sc__law_right.nd rfl (Or.inl rfl) (pe_tup (pa_cons (pe_has h_law_number (hr.mono (by decide)) (pa_cons (pv 0) pa_nil)) (pa_cons (pe_has h_law_number (hr.mono (by decide)) (pa_cons (pv 0) pa_nil)) pa_nil))))
      (pss_cons (ps_if (PW.pt (pw_or (pt_cmpR op_ne (pe_hasD dA2 T.cl (hr.mono (by decide)) (pv 6) (pa_cons (pe_ix ix_tup (pv 9) pe_int (fun _ _ => rfl)) (pa_cons (pe_ix ix_tup (pv 9) pe_int (fun _ _ => rfl)) pa_nil))) (pe_has h_law_value (hr.mono (by decide)) (pa_cons (pv 3) (pa_cons (pv 9) pa_nil))) (by first | exact nomark _ | rfl)) (pw_or1 (pt_cmpR op_ne (pe_hasD dA1 T.cl (hr.mono (by decide)) (pv 6) (pa_cons (pe_ix ix_tup (pv 9) pe_int (fun _ _ => rfl)) pa_nil)) (pe_has h_law_value (hr.mono (by decide)) (pa_cons (pv 3) (pa_cons (pe_tup (pa_cons (pe_ix ix_tup (pv 9) pe_int (fun _ _ => rfl)) (pa_cons pe_int pa_nil))) pa_nil))) (by first | exact nomark _ | rfl))))) (pss_one (ps_ret pe_bl))
        pss_nil)
      (pss_cons (ps_set (i := 10) sc__law_right.nd rfl (Or.inl rfl) (pe_hasM mP T.cl (hr.mono (by decide)) (pv 6) (pa_cons (pv 7) (pa_cons (pv 8) pa_nil))))
      (pss_cons (ps_set (i := 11) sc__law_right.nd rfl (Or.inl rfl) (pe_tup (pa_cons (pe_has h_law_value (hr.mono (by decide)) (pa_cons (pv 4) (pa_cons (pv 9) pa_nil))) (pa_cons (pe_has h_law_value (hr.mono (by decide)) (pa_cons (pv 5) (pa_cons (pv 9) pa_nil))) pa_nil))))
      (pss_cons (ps_if (pt_cmpR op_ne (pe_hasD dA2 T.cl (hr.mono (by decide)) (pv 10) (pa_cons (pe_ix ix_tup (pv 9) pe_int (fun _ _ => rfl)) (pa_cons (pe_ix ix_tup (pv 9) pe_int (fun _ _ => rfl)) pa_nil))) (pe_has h_law_value (hr.mono (by decide)) (pa_cons (pv 3) (pa_cons (pv 11) pa_nil))) (by first | exact nomark _ | rfl)) (pss_one (ps_ret pe_bl))
        pss_nil)
      (pss_cons (ps_set (i := 12) sc__law_right.nd rfl (Or.inl rfl) (pe_tup (pa_cons (pe_op op_add (pe_op op_mulW (pe_ix ix_tup (pv 3) pe_int (fun _ _ => rfl)) (pe_ix ix_tup (pv 4) pe_int (fun _ _ => rfl))) (pe_op op_mulW (pe_ix ix_tup (pv 3) pe_int (fun _ _ => rfl)) (pe_ix ix_tup (pv 5) pe_int (fun _ _ => rfl)))) (pa_cons (pe_op op_add (pe_op op_mulW (pe_ix ix_tup (pv 3) pe_int (fun _ _ => rfl)) (pe_ix ix_tup (pv 4) pe_int (fun _ _ => rfl))) (pe_op op_mulW (pe_ix ix_tup (pv 3) pe_int (fun _ _ => rfl)) (pe_ix ix_tup (pv 5) pe_int (fun _ _ => rfl)))) pa_nil))))
      (pss_cons (ps_if (PW.pt (pw_or (pt_not (pt_val (pe_has h_law_is (hr.mono (by decide)) (pa_cons (pv 10) (pa_cons (pe_op op_catA (pv 12) (pe_tup (pa_cons (pe_has h_law_value (hr.mono (by decide)) (pa_cons (pv 3) (pa_cons (pe_tup (pa_cons (pe_ix ix_tup (pv 4) pe_int (fun _ _ => rfl)) (pa_cons (pe_ix ix_tup (pv 5) pe_int (fun _ _ => rfl)) pa_nil))) pa_nil))) pa_nil))) pa_nil))))) (pw_or1 (pt_cmpR (op_neF T O mE (hr.mono (by decide))) (pe_hasM mP T.cl (hr.mono (by decide)) (pv 6) (pa_cons (pe_hasK hForm1 (hr.mono (by decide)) (pa_cons pe_int pa_nil)) (pa_cons (pe_hasK hForm2 (hr.mono (by decide)) (pa_cons pe_int (pa_cons pe_int pa_nil))) pa_nil))) (pv 6) (by first | exact nomark _ | rfl))))) (pss_one (ps_ret pe_bl))
        pss_nil)
      (pss_cons (ps_if (PW.pt (pw_or (pt_cmpR op_ne (pe_cmpR (op_eqF T mE (hr.mono (by decide))) (pv 6) (pv 7) (by first | exact nomark _ | rfl)) (pe_cmpR (op_eqD hr.units) (pv 3) (pv 4) (by first | exact nomark _ | rfl)) (by first | exact nomark _ | rfl)) (pw_or (pt_cmpR op_ne (pe_cmpR (op_neF T O mE (hr.mono (by decide))) (pv 6) (pv 8) (by first | exact nomark _ | rfl)) (pe_cmpR (op_neD hr.units) (pv 3) (pv 5) (by first | exact nomark _ | rfl)) (by first | exact nomark _ | rfl)) (pw_or (pt_cmpR (op_eqF T mE (hr.mono (by decide))) (pv 6) (pv 3) (by first | exact nomark _ | rfl)) (pw_or1 (pt_cmpR (op_eqF T mE (hr.mono (by decide))) (pv 6) (pe_callTy (call_strF mS (hr.mono (by decide))) (by rfl) B.n_str (by decide +kernel) (pa_cons (pv 6) pa_nil)) (by first | exact nomark _ | rfl))))))) (pss_one (ps_ret pe_bl))
        pss_nil)
      (pss_cons (ps_if (PW.pt (pw_or (pt_cmpR (op_neF T O mE (hr.mono (by decide))) (pe_hasK0 hForm0 (hr.mono (by decide))) (pe_hasK hForm3 (hr.mono (by decide)) (pa_cons pe_int (pa_cons pe_int (pa_cons pe_int pa_nil)))) (by first | exact nomark _ | rfl)) (pw_or1 (pt_cmpR (op_neF T O mE (hr.mono (by decide))) (pe_hasK hForm1 (hr.mono (by decide)) (pa_cons (pe_ix ix_tup (pv 3) pe_int (fun _ _ => rfl)) pa_nil)) (pe_hasK hForm3 (hr.mono (by decide)) (pa_cons (pe_ix ix_tup (pv 3) pe_int (fun _ _ => rfl)) (pa_cons pe_int (pa_cons pe_int pa_nil)))) (by first | exact nomark _ | rfl))))) (pss_one (ps_ret pe_bl))
        pss_nil)
      (pss_cons (ps_if (pt_cmpR (op_neF T O mE (hr.mono (by decide))) (pe_hasK hForm2 (hr.mono (by decide)) (pa_cons (pe_ix ix_tup (pv 3) pe_int (fun _ _ => rfl)) (pa_cons (pe_ix ix_tup (pv 3) pe_int (fun _ _ => rfl)) pa_nil))) (pe_hasK hForm3 (hr.mono (by decide)) (pa_cons (pe_ix ix_tup (pv 3) pe_int (fun _ _ => rfl)) (pa_cons (pe_ix ix_tup (pv 3) pe_int (fun _ _ => rfl)) (pa_cons pe_int pa_nil)))) (by first | exact nomark _ | rfl)) (pss_one (ps_ret pe_bl))
        pss_nil)
      (pss_one (ps_ret (pe_and (pe_has h_law_is (hr.mono (by decide)) (pa_cons (pv 6) (pa_cons (pv 3) pa_nil))) (pe_and (pe_has h_law_is (hr.mono (by decide)) (pa_cons (pv 7) (pa_cons (pv 4) pa_nil))) (pe_one (pe_has h_law_is (hr.mono (by decide)) (pa_cons (pv 8) (pa_cons (pv 5) pa_nil)))))))))))))))))))))), ?_⟩
    refine ⟨3, rfl, by decide, by decide, fun D nD => lc_range (lo := 0) (n := 3) (fun i H' => D ≠ p ∧ Pot H' p ∧ But p H H' ∧ ∃ ts : List (Addr × Int × Int × Int), ts.length = i ∧ H' D = some (.lst (ts.map fun q => V.ref q.1)) ∧
        ∀ q ∈ ts, q.1 ≠ p ∧ H' q.1 = some (.tup [.int q.2.1, .int q.2.2.1, .int q.2.2.2]) ∧ Bd 90 q.2.1 ∧ Bd 90 q.2.2.1 ∧ Bd 90 q.2.2.2) ⟨hp.ne nD, hp.new nD, But.new nD, [], rfl, upd_same, fun q hq => by cases hq⟩ ?_ ?_⟩
    · rintro i H1 hi ⟨nDp, hp1, e1, ts, hl, hD, hts⟩
      refine ⟨rfl, ?_⟩
      refine ⟨_, rfl, p, rfl, hp1, fun t x y c H2 bx b_y bc ntp nt ht hp2 e2 => ⟨_, e2 D _ hD nDp, ?_, nDp, ?_, ?_, ts ++ [(t, x, y, c)], ?_, ?_, ?_⟩⟩
      · rw [List.length_map, hl]
        exact small1000 (by omega)
      · obtain ⟨a, b, e, r⟩ := hp2
        exact ⟨a, b, by rw [upd_ne (Ne.symm nDp)]; exact e, r⟩
      · intro b o hb hbp
        rw [upd_ne (ne_of_none hb nD)]
        exact e2 _ _ (e1 _ _ hb hbp) hbp
      · rw [List.length_append, hl]
        rfl
      · rw [upd_same, List.map_append]
        rfl
      · intro q hq
        rcases List.mem_append.mp hq with hq | hq
        · obtain ⟨a1, a2, a3⟩ := hts q hq
          refine ⟨a1, ?_, a3⟩
          have : q.1 ≠ D := ne_of a2 hD (by intro z; cases z)
          rw [upd_ne this]
          exact e2 _ _ a2 a1
        · cases List.mem_singleton.mp hq
          refine ⟨ntp, ?_, bx, b_y, bc⟩
          have : t ≠ D := fun z => by
            subst z
            rw [hD] at nt
            cases nt
          rw [upd_ne this]
          exact ht
    rintro H1 ⟨nDp, hp1, e1, ts, hl, hD, hts⟩
    obtain ⟨⟨t1, x1, y1, c1⟩, ⟨t2, x2, y2, c2⟩, ⟨t3, x3, y3, c3⟩, rfl⟩ : ∃ q1 q2 q3, ts = [q1, q2, q3] := by
      match ts, hl with
      | [q1, q2, q3], _ => exact ⟨q1, q2, q3, rfl⟩
    obtain ⟨n1, hT1, bx1, by1, bc1⟩ := hts _ List.mem_cons_self
    obtain ⟨n2, hT2, bx2, by2, bc2⟩ := hts _ (List.mem_cons_of_mem _ List.mem_cons_self)
    obtain ⟨n3, hT3, bx3, by3, bc3⟩ := hts _ (List.mem_cons_of_mem _ (List.mem_cons_of_mem _ List.mem_cons_self))
    dsimp only at n1 hT1 bx1 by1 bc1 n2 hT2 bx2 by2 bc2 n3 hT3 bx3 by3 bc3
    have hT1 : SqT K H1 t1 [.int x1, .int y1, .int c1] := SqT.of hT1
    have hT2 : SqT K H1 t2 [.int x2, .int y2, .int c2] := SqT.of hT2
    have hT3 : SqT K H1 t3 [.int x3, .int y3, .int c3] := SqT.of hT3
    refine ⟨_, rfl, D, _, rfl, SqL.of hD, rfl, _, _, rfl, _, _, rfl, _, _, rfl, rfl, ?_⟩
    refine ⟨_, rfl, t1, x1, y1, c1, rfl, hT1, fun a1 K1 na1 f1 s1 => ⟨_, rfl, t2, x2, y2, c2, rfl, s1.st hT2, fun a2 K2 na2 f2 s2 => ⟨_, rfl, t3, x3, y3, c3, rfl, (s1.trans s2).st hT3, fun a3 K3 na3 f3 s3 => ⟨_, _, _, rfl, ?_⟩⟩⟩⟩
    have S3 := (s1.trans s2).trans s3
    have a1p := hp1.ne na1
    have a2p := (hp1.same s1).ne na2
    have a3p := (hp1.same (s1.trans s2)).ne na3
    have f1 := f1.same (s2.trans s3)
    have f2 := f2.same s3
    refine ⟨_, rfl, _, rfl, a1, t1, x1, y1, c1, rfl, f1, S3.st hT1, bx1.mono (by decide), by1.mono (by decide), bc1.mono (by decide), fun K4 s4 => ⟨true, rfl, iteF ?_⟩⟩
    refine ⟨_, rfl, _, rfl, a2, t2, x2, y2, c2, rfl, f2.same s4, (S3.trans s4).st hT2, bx2.mono (by decide), by2.mono (by decide), bc2.mono (by decide), fun K5 s5 => ⟨true, rfl, iteF ?_⟩⟩
    have S5 := (S3.trans s4).trans s5
    refine ⟨_, rfl, _, rfl, _, rfl, _, rfl, a1, a2, t1, t2, x1, y1, c1, x2, y2, c2, rfl, f1.same (s4.trans s5), f2.same (s4.trans s5), S5.st hT1, S5.st hT2, bx1, by1, bc1, bx2, by2, bc2, fun K6 s6 => ⟨true, rfl, iteF ?_⟩⟩
    have S6 := S5.trans s6
    have s36 := (s4.trans s5).trans s6
    refine ⟨_, rfl, p, rfl, hp1.same S6, fun u K7 bu hp7 e7 => ⟨_, rfl, p, rfl, hp7, fun v K8 bv hp8 e8 => ⟨(by show 2 ≤ sizeLine; decide), fun tp ntp => ?_⟩⟩⟩
    have e9 := (e7.trans e8).trans (But.new (o := .tup [.int u, .int v]) ntp)
    have E9 := (But.of S6).trans e9
    have hp9 := hp8.new (o := .tup [.int u, .int v]) ntp
    have hP : SqT K (upd K8 tp (.tup [.int u, .int v])) tp [.int u, .int v] := SqT.of upd_same
    have f1 := (f1.same s36).but e9 a1p
    have f2 := (f2.same s36).but e9 a2p
    have f3 := (f3.same s36).but e9 a3p
    have hT1 := E9.st n1 hT1
    have hT2 := E9.st n2 hT2
    have hT3 := E9.st n3 hT3
    have fin : ∀ H', Same (upd K8 tp (.tup [.int u, .int v])) H' → Q (.bl true) H' := fun H' s => k H' (hp9.same s) ((e1.trans E9).trans (But.of s))
    generalize upd K8 tp (.tup [.int u, .int v]) = K9 at hP f1 f2 f3 hT1 hT2 hT3 fin
    have b9 : ∀ {n : Int}, Bd 90 n → Bd 1000 n := fun h => h.mono (by decide)
    have b8 : ∀ {n : Int}, Bd 90 n → Bd 900 n := fun h => h.mono (by decide)
    -- form.at(point[0], point[1]) != value(near, point)
    obtain ⟨d1, i1⟩ := id f1
    refine ⟨_, rfl, a1, d1, _, rfl, i1, no_at _ _ _, _, rfl, tp, _, 0, _, rfl, rfl, hP, rfl, _, rfl, tp, _, 1, _, rfl, rfl, hP, rfl, a1, x1, y1, c1, u, v, rfl, f1, b9 bx1, b9 by1, b9 bu, b9 bv, fun L1 w1 => ?_⟩
    refine ⟨_, rfl, _, rfl, t1, tp, x1, y1, c1, u, v, rfl, w1.st hT1, w1.st hP, b8 bx1, b8 by1, b8 bu, b8 bv, rfl, _, rfl, ?_⟩
    refine iteNS rfl ?_
    -- form.at(point[0]) != value(near, (point[0], 0))
    obtain ⟨d2, i2⟩ := f1.same w1
    refine ⟨_, rfl, a1, d2, _, rfl, i2, no_at _ _ _, _, rfl, tp, _, 0, _, rfl, rfl, w1.st hP, rfl, a1, x1, y1, c1, u, 0, rfl, ⟨d2, i2⟩, b9 bx1, b9 by1, b9 bu, Bd.zero, fun L2 w2 => ?_⟩
    have W2 := w1.trans w2
    refine ⟨_, rfl, _, rfl, tp, _, 0, _, rfl, rfl, W2.st hP, rfl, (by show 2 ≤ sizeLine; decide), fun t7 n7 => ?_⟩
    have W3 := W2.trans (Same.new (o := .tup [.int u, .int 0]) n7)
    refine ⟨t1, t7, x1, y1, c1, u, 0, rfl, W3.st hT1, SqT.of upd_same, b8 bx1, b8 by1, b8 bu, Bd.zero, rfl, _, rfl, ?_⟩
    refine iteNS rfl ?_
    -- mixed = form.put(two, three)
    obtain ⟨d3, i3⟩ := f1.same W3
    refine ⟨_, rfl, a1, d3, _, rfl, i3, no_put _ _ _, _, rfl, _, rfl, a1, a2, a3, x1, y1, c1, x2, y2, c2, x3, y3, c3, rfl, ⟨d3, i3⟩, f2.same W3, f3.same W3, b9 bx1, b9 by1, b9 bx2, b9 by2, b9 bc2, b9 bx3, b9 by3, b9 bc3, fun m L4 _ fm w4 => ?_⟩
    rw [mix2 x1 y1 x2 x3, mix2 x1 y1 y2 y3, mix3 x1 y1 c1 c2 c3] at fm
    have W4 := W3.trans w4
    -- inner
    refine ⟨_, rfl, _, rfl, t2, tp, x2, y2, c2, u, v, rfl, W4.st hT2, W4.st hP, b8 bx2, b8 by2, b8 bu, b8 bv, _, rfl, _, rfl, t3, tp, x3, y3, c3, u, v, rfl, W4.st hT3, W4.st hP, b8 bx3, b8 by3, b8 bu, b8 bv, (by show 2 ≤ sizeLine; decide), fun ti nti => ?_⟩
    have w5 := Same.new (o := .tup [.int (x2 * u + y2 * v + c2), .int (x3 * u + y3 * v + c3)]) nti
    have W5 := W4.trans w5
    have fm5 := fm.same w5
    have hI : SqT K (upd L4 ti (.tup [.int (x2 * u + y2 * v + c2), .int (x3 * u + y3 * v + c3)])) ti [.int (x2 * u + y2 * v + c2), .int (x3 * u + y3 * v + c3)] := SqT.of upd_same
    have bm1 : Bd 200 (x1 * x2 + y1 * x3) := ((bx1.mul bx2).add (by1.mul bx3)).mono (by decide)
    have bm2 : Bd 200 (x1 * y2 + y1 * y3) := ((bx1.mul by2).add (by1.mul by3)).mono (by decide)
    have bm3 : Bd 200 (x1 * c2 + y1 * c3 + c1) := (((bx1.mul bc2).add (by1.mul bc3)).add (bc1.mono (by decide))).mono (by decide)
    have bi1 : Bd 200 (x2 * u + y2 * v + c2) := (((bx2.mul bu).add (by2.mul bv)).add (bc2.mono (by decide))).mono (by decide)
    have bi2 : Bd 200 (x3 * u + y3 * v + c3) := (((bx3.mul bu).add (by3.mul bv)).add (bc3.mono (by decide))).mono (by decide)
    -- mixed.at(point[0], point[1]) != value(near, inner)
    obtain ⟨d4, i4⟩ := id fm5
    refine ⟨_, rfl, m, d4, _, rfl, i4, no_at _ _ _, _, rfl, tp, _, 0, _, rfl, rfl, W5.st hP, rfl, _, rfl, tp, _, 1, _, rfl, rfl, W5.st hP, rfl, m, _, _, _, u, v, rfl, fm5, bm1.mono (by decide), bm2.mono (by decide), b9 bu, b9 bv, fun L6 w6 => ?_⟩
    have W6 := W5.trans w6
    refine ⟨_, rfl, _, rfl, t1, ti, x1, y1, c1, _, _, rfl, W6.st hT1, w6.st hI, b8 bx1, b8 by1, bi1.mono (by decide), bi2.mono (by decide), rfl, _, rfl, ?_⟩
    refine iteNS (congrArg V.int (mix1 x1 y1 c1 x2 y2 c2 x3 y3 c3 u v)) ?_
    -- due
    refine ⟨_, rfl, t1, _, 0, _, rfl, rfl, W6.st hT1, rfl, _, rfl, t2, _, 0, _, rfl, rfl, W6.st hT2, rfl, _, _, rfl, rfl, bx1.w bx2 (by decide) (by decide) (by decide), ?_⟩
    refine ⟨_, rfl, t1, _, 1, _, rfl, rfl, W6.st hT1, rfl, _, rfl, t3, _, 0, _, rfl, rfl, W6.st hT3, rfl, _, _, rfl, rfl, by1.w bx3 (by decide) (by decide) (by decide), _, _, rfl, rfl, ?_⟩
    refine ⟨_, rfl, t1, _, 0, _, rfl, rfl, W6.st hT1, rfl, _, rfl, t2, _, 1, _, rfl, rfl, W6.st hT2, rfl, _, _, rfl, rfl, bx1.w by2 (by decide) (by decide) (by decide), ?_⟩
    refine ⟨_, rfl, t1, _, 1, _, rfl, rfl, W6.st hT1, rfl, _, rfl, t3, _, 1, _, rfl, rfl, W6.st hT3, rfl, _, _, rfl, rfl, by1.w by3 (by decide) (by decide) (by decide), _, _, rfl, rfl, (by show 2 ≤ sizeLine; decide), fun td ntd => ?_⟩
    have w7 := Same.new (o := .tup [.int (x1 * x2 + y1 * x3), .int (x1 * y2 + y1 * y3)]) ntd
    have W7 := W6.trans w7
    -- is(mixed, due + (value(near, (far[2], third[2])),))
    refine ⟨_, rfl, _, rfl, _, rfl, _, rfl, t2, _, 2, _, rfl, rfl, W7.st hT2, rfl, _, rfl, t3, _, 2, _, rfl, rfl, W7.st hT3, rfl, (by show 2 ≤ sizeLine; decide), fun te nte => ?_⟩
    have w8 := Same.new (o := .tup [.int c2, .int c3]) nte
    have W8 := W7.trans w8
    refine ⟨t1, te, x1, y1, c1, c2, c3, rfl, W8.st hT1, SqT.of upd_same, b8 bx1, b8 by1, b8 bc2, b8 bc3, (by show 1 ≤ sizeLine; decide), fun tg ntg => ?_⟩
    have w9 := Same.new (o := .tup [.int (x1 * c2 + y1 * c3 + c1)]) ntg
    refine ⟨td, tg, [.int (x1 * x2 + y1 * x3), .int (x1 * y2 + y1 * y3)], [.int (x1 * c2 + y1 * c3 + c1)], rfl, rfl, SqT.of (w9 _ _ (w8 _ _ upd_same)), SqT.of upd_same, (by show 3 ≤ sizeLine; decide), (fun z => by cases z), (fun _ z => by cases z), fun _ _ th nth => ?_⟩
    have w10 := Same.new (o := .tup [.int (x1 * x2 + y1 * x3), .int (x1 * y2 + y1 * y3), .int (x1 * c2 + y1 * c3 + c1)]) nth
    have fmx := fm5.same ((((w6.trans w7).trans w8).trans w9).trans w10)
    refine ⟨m, th, _, _, _, rfl, fmx, SqT.of upd_same, bm1.mono (by decide), bm2.mono (by decide), bm3.mono (by decide), fun L11 w11 => ⟨true, rfl, iteF ?_⟩⟩
    have W11 := ((W8.trans w9).trans w10).trans w11
    -- form.put(Form(1), Form(0, 1)) != form
    obtain ⟨d5, i5⟩ := f1.same W11
    refine ⟨_, rfl, a1, d5, _, rfl, i5, no_put _ _ _, ?_⟩
    intro g1 dq nq nd ne
    refine ⟨g1, dq, 1, 0, 0, rfl, upd_same, fun L12 fg1 e12 => ⟨rfl, ?_⟩⟩
    have w12 := madeS nq nd e12
    intro g2 dq2 nq2 nd2 ne2
    refine ⟨g2, dq2, 0, 1, 0, rfl, upd_same, fun L13 fg2 e13 => ⟨rfl, ?_⟩⟩
    have w13 := madeS nq2 nd2 e13
    have W13 := (W11.trans w12).trans w13
    refine ⟨a1, g1, g2, x1, y1, c1, 1, 0, 0, 0, 1, 0, rfl, f1.same W13, fg1.same w13, fg2, b9 bx1, b9 by1, (bd_small (by decide) (by decide)).mono (by decide), Bd.zero, Bd.zero, Bd.zero, (bd_small (by decide) (by decide)).mono (by decide), Bd.zero, fun g3 L14 _ fg3 w14 => ?_⟩
    have fg3 : FormAt C L14 g3 x1 y1 c1 := by simpa using fg3
    have W14 := W13.trans w14
    obtain ⟨d6, i6⟩ := id fg3
    obtain ⟨d7, i7⟩ := f1.same W14
    refine ⟨_, rfl, g3, d6, _, _, rfl, i6, T.own.ty i7, notFirst_self, g3, .ref a1, x1, y1, c1, rfl, fg3, .inl ⟨a1, x1, y1, c1, rfl, ⟨d7, i7⟩, fun L15 w15 => ⟨_, rfl, _, rfl, ?_⟩⟩⟩
    rw [show decide (x1 = x1 ∧ y1 = y1 ∧ c1 = c1) = true by simp]
    refine iteF ?_
    have W15 := W14.trans w15
    -- (form == two) != (near == far)
    obtain ⟨d8, i8⟩ := f1.same W15
    obtain ⟨d9, i9⟩ := f2.same W15
    refine ⟨_, rfl, _, rfl, a1, d8, _, _, rfl, i8, T.own.ty i9, notFirst_self, a1, .ref a2, x1, y1, c1, rfl, ⟨d8, i8⟩, .inl ⟨a2, x2, y2, c2, rfl, ⟨d9, i9⟩, fun L16 w16 => ?_⟩⟩
    have W16 := W15.trans w16
    refine ⟨_, rfl, _, rfl, .tuple [.int x1, .int y1, .int c1], .tuple [.int x2, .int y2, .int c2], .tup (W16.st hT1) (.cons (.int x1) (.cons (.int y1) (.cons (.int c1) .nil))), .tup (W16.st hT2) (.cons (.int x2) (.cons (.int y2) (.cons (.int c2) .nil))), rfl, rfl, rfl, _, rfl, ?_⟩
    rw [eqv3]
    refine iteNS rfl ?_
    -- (form != three) != (near != third)
    obtain ⟨d10, i10⟩ := f1.same W16
    obtain ⟨d11, i11⟩ := f3.same W16
    refine ⟨_, rfl, _, rfl, a1, d10, _, _, rfl, i10, T.own.ty i11, notFirst_self, a1, .ref a3, x1, y1, c1, rfl, ⟨d10, i10⟩, .inl ⟨a3, x3, y3, c3, rfl, ⟨d11, i11⟩, fun L17 w17 => ⟨_, rfl, ?_⟩⟩⟩
    have W17 := W16.trans w17
    refine ⟨_, rfl, _, rfl, .tuple [.int x1, .int y1, .int c1], .tuple [.int x3, .int y3, .int c3], .tup (W17.st hT1) (.cons (.int x1) (.cons (.int y1) (.cons (.int c1) .nil))), .tup (W17.st hT3) (.cons (.int x3) (.cons (.int y3) (.cons (.int c3) .nil))), rfl, rfl, rfl, _, rfl, ?_⟩
    rw [eqv3]
    refine iteNS rfl ?_
    -- form == near, form == str(form)
    obtain ⟨d12, i12⟩ := f1.same W17
    have hN := W17.st hT1
    refine ⟨_, rfl, _, rfl, a1, d12, _, _, rfl, i12, tyT hN, notFirst_ty T.sT, a1, .ref t1, x1, y1, c1, rfl, ⟨d12, i12⟩, .inr ⟨_, tyT hN, T.sT, _, rfl, iteF ?_⟩⟩
    refine ⟨_, rfl, _, rfl, a1, d12, _, rfl, i12, a1, x1, y1, c1, rfl, ⟨d12, i12⟩, bx1.mono (by decide), by1.mono (by decide), bc1.mono (by decide), fun L18 w18 => ⟨_, rfl, ?_⟩⟩
    have W18 := W17.trans w18
    obtain ⟨d13, i13⟩ := f1.same W18
    refine ⟨a1, d13, _, _, rfl, i13, .base (.str _), notFirst_ty T.sS, a1, .str (textF x1 y1 c1), x1, y1, c1, rfl, ⟨d13, i13⟩, .inr ⟨_, .base (.str _), T.sS, _, rfl, iteF ?_⟩⟩
    -- Form() != Form(0, 0, 0)
    intro q1 r1 nq1 nr1 ne1
    refine ⟨q1, r1, 0, 0, 0, rfl, upd_same, fun L19 fq1 e19 => ⟨rfl, ?_⟩⟩
    have w19 := madeS nq1 nr1 e19
    intro q2 r2 nq2 nr2 ne2
    refine ⟨q2, r2, 0, 0, 0, rfl, upd_same, fun L20 fq2 e20 => ⟨rfl, ?_⟩⟩
    have w20 := madeS nq2 nr2 e20
    obtain ⟨u1, j1⟩ := fq1.same w20
    obtain ⟨u2, j2⟩ := id fq2
    refine ⟨q1, u1, _, _, rfl, j1, T.own.ty j2, notFirst_self, q1, .ref q2, 0, 0, 0, rfl, ⟨u1, j1⟩, .inl ⟨q2, 0, 0, 0, rfl, ⟨u2, j2⟩, fun L21 w21 => ⟨_, rfl, _, rfl, ?_⟩⟩⟩
    rw [show decide ((0 : Int) = 0 ∧ (0 : Int) = 0 ∧ (0 : Int) = 0) = true by decide]
    refine iteF ?_
    have W21 := ((W18.trans w19).trans w20).trans w21
    -- Form(near[0]) != Form(near[0], 0, 0)
    refine ⟨_, rfl, t1, _, 0, _, rfl, rfl, W21.st hT1, rfl, ?_⟩
    intro q3 r3 nq3 nr3 ne3
    refine ⟨q3, r3, x1, 0, 0, rfl, upd_same, fun L22 fq3 e22 => ⟨rfl, ?_⟩⟩
    have w22 := madeS nq3 nr3 e22
    refine ⟨_, rfl, t1, _, 0, _, rfl, rfl, (W21.trans w22).st hT1, rfl, ?_⟩
    intro q4 r4 nq4 nr4 ne4
    refine ⟨q4, r4, x1, 0, 0, rfl, upd_same, fun L23 fq4 e23 => ⟨rfl, ?_⟩⟩
    have w23 := madeS nq4 nr4 e23
    obtain ⟨u3, j3⟩ := fq3.same w23
    obtain ⟨u4, j4⟩ := id fq4
    refine ⟨q3, u3, _, _, rfl, j3, T.own.ty j4, notFirst_self, q3, .ref q4, x1, 0, 0, rfl, ⟨u3, j3⟩, .inl ⟨q4, x1, 0, 0, rfl, ⟨u4, j4⟩, fun L24 w24 => ⟨_, rfl, _, rfl, ?_⟩⟩⟩
    rw [show decide (x1 = x1 ∧ (0 : Int) = 0 ∧ (0 : Int) = 0) = true by simp]
    refine iteF ?_
    have W24 := ((W21.trans w22).trans w23).trans w24
    -- Form(near[0], near[1]) != Form(near[0], near[1], 0)
    refine ⟨_, rfl, t1, _, 0, _, rfl, rfl, W24.st hT1, rfl, _, rfl, t1, _, 1, _, rfl, rfl, W24.st hT1, rfl, ?_⟩
    intro q5 r5 nq5 nr5 ne5
    refine ⟨q5, r5, x1, y1, 0, rfl, upd_same, fun L25 fq5 e25 => ⟨rfl, ?_⟩⟩
    have w25 := madeS nq5 nr5 e25
    refine ⟨_, rfl, t1, _, 0, _, rfl, rfl, (W24.trans w25).st hT1, rfl, _, rfl, t1, _, 1, _, rfl, rfl, (W24.trans w25).st hT1, rfl, ?_⟩
    intro q6 r6 nq6 nr6 ne6
    refine ⟨q6, r6, x1, y1, 0, rfl, upd_same, fun L26 fq6 e26 => ⟨rfl, ?_⟩⟩
    have w26 := madeS nq6 nr6 e26
    obtain ⟨u5, j5⟩ := fq5.same w26
    obtain ⟨u6, j6⟩ := id fq6
    refine ⟨q5, u5, _, _, rfl, j5, T.own.ty j6, notFirst_self, q5, .ref q6, x1, y1, 0, rfl, ⟨u5, j5⟩, .inl ⟨q6, x1, y1, 0, rfl, ⟨u6, j6⟩, fun L27 w27 => ⟨_, rfl, _, rfl, ?_⟩⟩⟩
    rw [show decide (x1 = x1 ∧ y1 = y1 ∧ (0 : Int) = 0) = true by simp]
    refine iteF ?_
    have W27 := ((W24.trans w25).trans w26).trans w27
    -- the return
    refine ⟨_, rfl, _, rfl, a1, t1, x1, y1, c1, rfl, f1.same W27, W27.st hT1, bx1.mono (by decide), by1.mono (by decide), bc1.mono (by decide), fun L28 w28 => ⟨true, rfl, iteT ?_⟩⟩
    have W28 := W27.trans w28
    refine ⟨_, rfl, _, rfl, a2, t2, x2, y2, c2, rfl, f2.same W28, W28.st hT2, bx2.mono (by decide), by2.mono (by decide), bc2.mono (by decide), fun L29 w29 => ⟨true, rfl, iteT ?_⟩⟩
    have W29 := W28.trans w29
    exact ⟨_, rfl, _, rfl, a3, t3, x3, y3, c3, rfl, f3.same W29, W29.st hT3, bx3.mono (by decide), by3.mono (by decide), bc3.mono (by decide), fun L30 w30 => fin _ (W29.trans w30)⟩
end
end N

set_option maxHeartbeats 8000000
namespace N
open PySem L2
def spLaw (K : PySem.W.Frag) : Sp := fun vs H Q _ => ∃ (a : Addr) (ns : List Int), vs = [.ref a] ∧ SqL K H a (ns.map V.int) ∧ ns.length ≤ 63 ∧ ∀ H', Q (.bl true) H'
section
variable {P : Program} {w : World} {K : PySem.W.Frag} {mg : Str → Option Value} {base : Heap} {C : Addr}
abbrev s_law : Stmt := top 25
theorem sc_law : FnScope ["_law_script", "_law_k"] ["_law_script"] (defScope s_law) := ⟨rfl, rfl, rfl, by decide +kernel, rfl, by decide +kernel, by decide +kernel⟩
theorem ok_law {f : Addr} {fd : FuncData} (B : Blts mg) (F : Fun K "law" "law" s_law f fd) (h_law_right : Has P w K mg base "_law_right" 8 ["_law_pot_here"] spRight) (h_law_pot : Has P w K mg base "_law_pot" 1 ["_law_script", "_law_k"] (spPot K)) : FnOk P w K mg base CX0 9 f fd ["_law_script"] (spLaw K) := by
  refine F.ok sc_law (fun vs H Q E h => ?_) (fun cdv A outer s H vs Q E hr h => ?_)
  · obtain ⟨_, _, rfl, _⟩ := h
    rfl
  · obtain ⟨a, ns, rfl, hS, hn, k⟩ := h
    refine ⟨_, (pss_one (ps_ret (pe_callB (cr_all rfl) (by rfl) B.n_all (by decide +kernel) (pa_cons (pe_lc (own := [("_law_k", 1)]) rfl sc_law.nd (pi_range1 (by rfl) B.n_range (pa_cons (pe_callB (call_max2 rfl) (by rfl) B.n_max (by decide +kernel) (pa_cons pe_int (pa_cons (pe_callB (call_min2 rfl) (by rfl) B.n_min (by decide +kernel) (pa_cons (pe_callB call_len (by rfl) B.n_len PySem.boot_len (pa_cons (pv 0) pa_nil)) (pa_cons pe_int pa_nil))) pa_nil))) pa_nil)) (blkOk_by (own := [("_law_k", 1)]) (N := ["_law_script", "_law_k"]) (sc := defScope s_law) (by decide +kernel)) (fun _ _ _ _ _ => by exact (pg_name (i := 1) sc_law.nd rfl (Or.inl rfl))) (fun _ _ _ _ _ => by exact pts_nil) (fun _ _ _ _ _ => by exact (pe_has h_law_right (hr.mono (by decide)) (pa_cons (pe_has h_law_pot (hr.mono (by decide)) (pa_cons (pv 0) (pa_cons (pv 1) pa_nil))) pa_nil)))) pa_nil)))), ?_⟩
    obtain ⟨n, hn0, hn1, hne⟩ : ∃ n : Nat, n < 1000 ∧ n ≤ 63 ∧ (if (if (4 : Int) < (ns.length : Int) then (4 : Int) else (ns.length : Int)) > 1 then (if (4 : Int) < (ns.length : Int) then (4 : Int) else (ns.length : Int)) else 1) = (n : Int) := by
      refine ⟨(if (if (4 : Int) < (ns.length : Int) then (4 : Int) else (ns.length : Int)) > 1 then (if (4 : Int) < (ns.length : Int) then (4 : Int) else (ns.length : Int)) else 1).toNat, ?_, ?_, ?_⟩ <;> (repeat' split) <;> omega
    refine ⟨_, rfl, _, ns.length, rfl, .inl ⟨_, hS, by rw [List.length_map]⟩, _, _, rfl, _, _, rfl, ?_⟩
    rw [hne]
    refine ⟨_, rfl, by omega, by omega, fun D nD => ?_⟩
    rw [Int.toNat_natCast]
    refine lc_map walk_range (fun _ => .bl true) nD (by omega) (fun _ _ => trivial) ?_ ?_
    · rintro i x H1 H2 hi s1 ⟨rfl, rfl⟩ R hR
      refine ⟨rfl, ?_⟩
      refine ⟨_, rfl, _, rfl, a, ns, i, ?_, s1.seq hS, hn, by omega, fun q H3 nq hp s3 => ?_⟩
      · show [V.ref a, V.int (0 + (i : Int))] = _
        rw [Int.zero_add]
      · exact ⟨q, rfl, hp, fun H4 _ e4 => hR H4 (same_but s3 e4 nq)⟩
    · intro H1 s1 hD
      refine ⟨D, (List.range n).map fun _ => true, rfl, SqL.of (by rw [List.map_map]; exact hD), ?_⟩
      rw [show ((List.range n).map fun _ => true).all id = true by simp]
      exact k _
end
end N

set_option maxHeartbeats 8000000
namespace N
open PySem L2
section
variable {P : Program} {w : World} {K : PySem.W.Frag} {mg : Str → Option Value} {base : Heap} {C : Addr}
theorem hF3 (B : Blts mg) (T : FormC K mg C) (I : InitAt K mg "Form" C "Form.__init__" s_Form___init__ [.int 0, .int 0, .int 0] []) (hi : HI P w K mg base) : HF P w K mg base C [] := by
  obtain ⟨f, fd, g, M, F⟩ := I.ex
  obtain ⟨ds, hv, hb⟩ := F.binds1 (ps := ["self", "x", "y", "constant"]) 4 3 (by simp) rfl (fun _ _ _ _ _ _ _ us its hu hi => match us, its, hu, hi with | [_, _, _, _], [_, _, _], _, _ => ⟨_, rfl, rfl⟩)
  exact ⟨f, fd, ds, g, M, hb, hv, ok_init B T F hi⟩
theorem hF2 (B : Blts mg) (T : FormC K mg C) (I : InitAt K mg "Form" C "Form.__init__" s_Form___init__ [.int 0, .int 0, .int 0] []) (hi : HI P w K mg base) : HF P w K mg base C [.int 0] := by
  obtain ⟨f, fd, g, M, F⟩ := I.ex
  obtain ⟨ds, hv, hb⟩ := F.binds1 (ps := ["self", "x", "y", "constant"]) 3 2 (by simp) rfl (fun _ _ _ _ _ _ _ us its hu hi => match us, its, hu, hi with | [_, _, _], [_, _, _], _, _ => ⟨_, rfl, rfl⟩)
  exact ⟨f, fd, ds, g, M, hb, hv, ok_init B T F hi⟩
theorem hF1 (B : Blts mg) (T : FormC K mg C) (I : InitAt K mg "Form" C "Form.__init__" s_Form___init__ [.int 0, .int 0, .int 0] []) (hi : HI P w K mg base) : HF P w K mg base C [.int 0, .int 0] := by
  obtain ⟨f, fd, g, M, F⟩ := I.ex
  obtain ⟨ds, hv, hb⟩ := F.binds1 (ps := ["self", "x", "y", "constant"]) 2 1 (by simp) rfl (fun _ _ _ _ _ _ _ us its hu hi => match us, its, hu, hi with | [_, _], [_, _, _], _, _ => ⟨_, rfl, rfl⟩)
  exact ⟨f, fd, ds, g, M, hb, hv, ok_init B T F hi⟩
theorem hF0 (B : Blts mg) (T : FormC K mg C) (I : InitAt K mg "Form" C "Form.__init__" s_Form___init__ [.int 0, .int 0, .int 0] []) (hi : HI P w K mg base) : HF P w K mg base C [.int 0, .int 0, .int 0] := by
  obtain ⟨f, fd, g, M, F⟩ := I.ex
  obtain ⟨ds, hv, hb⟩ := F.binds1 (ps := ["self", "x", "y", "constant"]) 1 0 (by simp) rfl (fun _ _ _ _ _ _ _ us its hu hi => match us, its, hu, hi with | [_], [_, _, _], _, _ => ⟨_, rfl, rfl⟩)
  exact ⟨f, fd, ds, g, M, hb, hv, ok_init B T F hi⟩
theorem hA2 (B : Blts mg) (T : FormC K mg C) (I : MethD K C "at" "Form.at" s_Form_at [.int 0] []) (hi : HI P w K mg base) : HD P w K mg base C [] := by
  obtain ⟨f, fd, M, F⟩ := I.ex
  obtain ⟨ds, hv, hb⟩ := F.binds1 (ps := ["self", "x", "y"]) 3 1 (by simp) rfl (fun _ _ _ _ _ _ _ us its hu hi => match us, its, hu, hi with | [_, _, _], [_], _, _ => ⟨_, rfl, rfl⟩)
  exact ⟨f, fd, ds, M, hb, hv, ok_at B T F hi⟩
theorem hA1 (B : Blts mg) (T : FormC K mg C) (I : MethD K C "at" "Form.at" s_Form_at [.int 0] []) (hi : HI P w K mg base) : HD P w K mg base C [.int 0] := by
  obtain ⟨f, fd, M, F⟩ := I.ex
  obtain ⟨ds, hv, hb⟩ := F.binds1 (ps := ["self", "x", "y"]) 2 0 (by simp) rfl (fun _ _ _ _ _ _ _ us its hu hi => match us, its, hu, hi with | [_, _], [_], _, _ => ⟨_, rfl, rfl⟩)
  exact ⟨f, fd, ds, M, hb, hv, ok_at B T F hi⟩
/-- all of it, over what the top has written -/
theorem all_ok {f : Addr} {fd : FuncData} (B : Blts mg) (T : FormC K mg C) (O : FormOps K C) (I : InitAt K mg "Form" C "Form.__init__" s_Form___init__ [.int 0, .int 0, .int 0] []) (A : MethD K C "at" "Form.at" s_Form_at [.int 0] [])
    (F1 : FunAt K mg "is_integer" "is_integer" s_is_integer) (F2 : FunAt K mg "_as_form" "_as_form" s__as_form) (F3 : FunAt K mg "_numbers_of" "_numbers_of" s__numbers_of) (F4 : FunAt K mg "_text_of" "_text_of" s__text_of)
    (F5 : FunAt K mg "_sign" "_sign" s__sign) (F6 : FunAt K mg "_amount" "_amount" s__amount) (F7 : FunAt K mg "_law_pot" "_law_pot" s__law_pot) (F8 : FunAt K mg "_law_draw" "_law_draw" s__law_draw) (F9 : FunAt K mg "_law_pick" "_law_pick" s__law_pick)
    (F10 : FunAt K mg "_law_number" "_law_number" s__law_number) (F11 : FunAt K mg "_law_numbers" "_law_numbers" s__law_numbers) (F12 : FunAt K mg "_law_made" "_law_made" s__law_made) (F13 : FunAt K mg "_law_value" "_law_value" s__law_value)
    (F14 : FunAt K mg "_law_text" "_law_text" s__law_text) (F15 : FunAt K mg "_law_is" "_law_is" s__law_is) (F16 : FunAt K mg "_law_sum_right" "_law_sum_right" s__law_sum_right) (F17 : FunAt K mg "_law_right" "_law_right" s__law_right)
    (P1 : PropAt K C "x" "Form.x" s_Form_x) (P2 : PropAt K C "y" "Form.y" s_Form_y) (P3 : PropAt K C "constant" "Form.constant" s_Form_constant) (P4 : PropAt K C "is_number" "Form.is_number" s_Form_is_number)
    (M1 : MethAt K C "put" "Form.put" s_Form_put) (M2 : MethAt K C "__add__" "Form.__add__" s_Form___add__) (M3 : MethAt K C "__sub__" "Form.__sub__" s_Form___sub__) (M4 : MethAt K C "__mul__" "Form.__mul__" s_Form___mul__)
    (M5 : MethAt K C "__neg__" "Form.__neg__" s_Form___neg__) (M6 : MethAt K C "__eq__" "Form.__eq__" s_Form___eq__) (M7 : MethAt K C "__str__" "Form.__str__" s_Form___str__) (M8 : MethAt K C "__repr__" "Form.__repr__" s_Form___repr__)
    (F : Fun K "law" "law" s_law f fd) : FnOk P w K mg base CX0 9 f fd ["_law_script"] (spLaw K) := by
  have hi : HI P w K mg base := h_is_integer B F1
  have h3 : HF P w K mg base C [] := hF3 B T I hi
  have px : PX P w K mg base C := p_x T P1
  have py : PY P w K mg base C := p_y T P2
  have pc : PC' P w K mg base C := p_constant T P3
  have ha : Has P w K mg base "_as_form" 4 ["value"] (spAsForm C) := h_as_form B T F2 hi h3
  have hn := h_numbers_of (P := P) (w := w) (base := base) T F3 px py pc
  have mA := m_add (P := P) (w := w) (base := base) T M2 ha px py pc h3
  have mSb := m_sub (P := P) (w := w) (base := base) T M3 ha px py pc h3
  have mM := m_mul (P := P) (w := w) (base := base) T M4 hi h3
  have mN := m_neg (P := P) (w := w) (base := base) T M5 h3
  have mE := m_eq (P := P) (w := w) (base := base) B T M6 hn
  have mS := m_str (P := P) (w := w) (base := base) B T M7 (h_text_of F4 (h_sign F5) (h_amount B F6))
  have mR := m_repr (P := P) (w := w) (base := base) T M8
  have mP := m_put (P := P) (w := w) (base := base) B T O M1 mA mM
  have hd := h_law_draw (P := P) (w := w) (base := base) B F8
  have hk := h_law_pick (P := P) (w := w) (base := base) (K := K) B F9 hd
  have hnum := h_law_number (P := P) (w := w) (base := base) B F10 hd hk
  have his := h_law_is (P := P) (w := w) (base := base) B T F15 px py pc (p_is_number T P4) mS mR (h_law_text B F14)
  have hsum := h_law_sum_right (P := P) (w := w) (base := base) B T O F16 mA mSb mN mM his
  have hri := h_law_right (P := P) (w := w) (base := base) B T O F17 (h_law_numbers F11 hnum) hnum (h_law_made F12 h3) (h_law_value F13) his hsum (hA2 B T A hi) (hA1 B T A hi) mP mE mS (hF0 B T I hi) (hF1 B T I hi) (hF2 B T I hi) h3
  exact ok_law B F hri (h_law_pot B F7)
end
/-- with the law's own def, as the end wants it -/
theorem all_mk {l : PySem.W.OpenLaw} {w : World} {K : PySem.W.Frag} {h : Heap} {mg : Str → Option Value} {fa f C : Addr} (X : K.In h) (G : h.Ns mainGlobals mg) (hfa : mg "law" = some (.ref fa))
    {od an : Option Addr} {sl : Array (Option Value)} {oc kV dc pm cd ct : Value}
    (a : PySem.W.nsIn K mainGlobals "law" = some (some (.ref f))) (lk : K.lookup f = some ⟨oc, od, .func (PySem.W.fnOf "law" "law" (defArgs s_law) (defBody s_law) (defScope s_law) .none kV dc pm an cd ct), sl⟩) (c : PySem.W.codeIn K cd "law" = true) (k : PySem.W.keepIn K (.ref f) = true)
    (B : Blts mg) (T : FormC K mg C) (O : FormOps K C) (I : InitAt K mg "Form" C "Form.__init__" s_Form___init__ [.int 0, .int 0, .int 0] []) (A : MethD K C "at" "Form.at" s_Form_at [.int 0] [])
    (F1 : FunAt K mg "is_integer" "is_integer" s_is_integer) (F2 : FunAt K mg "_as_form" "_as_form" s__as_form) (F3 : FunAt K mg "_numbers_of" "_numbers_of" s__numbers_of) (F4 : FunAt K mg "_text_of" "_text_of" s__text_of)
    (F5 : FunAt K mg "_sign" "_sign" s__sign) (F6 : FunAt K mg "_amount" "_amount" s__amount) (F7 : FunAt K mg "_law_pot" "_law_pot" s__law_pot) (F8 : FunAt K mg "_law_draw" "_law_draw" s__law_draw) (F9 : FunAt K mg "_law_pick" "_law_pick" s__law_pick)
    (F10 : FunAt K mg "_law_number" "_law_number" s__law_number) (F11 : FunAt K mg "_law_numbers" "_law_numbers" s__law_numbers) (F12 : FunAt K mg "_law_made" "_law_made" s__law_made) (F13 : FunAt K mg "_law_value" "_law_value" s__law_value)
    (F14 : FunAt K mg "_law_text" "_law_text" s__law_text) (F15 : FunAt K mg "_law_is" "_law_is" s__law_is) (F16 : FunAt K mg "_law_sum_right" "_law_sum_right" s__law_sum_right) (F17 : FunAt K mg "_law_right" "_law_right" s__law_right)
    (P1 : PropAt K C "x" "Form.x" s_Form_x) (P2 : PropAt K C "y" "Form.y" s_Form_y) (P3 : PropAt K C "constant" "Form.constant" s_Form_constant) (P4 : PropAt K C "is_number" "Form.is_number" s_Form_is_number)
    (M1 : MethAt K C "put" "Form.put" s_Form_put) (M2 : MethAt K C "__add__" "Form.__add__" s_Form___add__) (M3 : MethAt K C "__sub__" "Form.__sub__" s_Form___sub__) (M4 : MethAt K C "__mul__" "Form.__mul__" s_Form___mul__)
    (M5 : MethAt K C "__neg__" "Form.__neg__" s_Form___neg__) (M6 : MethAt K C "__eq__" "Form.__eq__" s_Form___eq__) (M7 : MethAt K C "__str__" "Form.__str__" s_Form___str__) (M8 : MethAt K C "__repr__" "Form.__repr__" s_Form___repr__) :
    ∃ fd : FuncData, (∀ (s : Shared) (v : Value), BindsTo s fd ⟨[v], []⟩ [("_law_script", v)]) ∧ ∀ base : Heap, K.In base → base.Ns mainGlobals mg → FnOk l.prog w K mg base CX0 9 fa fd ["_law_script"] (spLaw K) := by
  have e := hfa.symm.trans (PySem.W.mg_of X G a)
  cases e
  exact ⟨_, fun s v => .of_eq rfl, fun base _ _ => all_ok B T O I A F1 F2 F3 F4 F5 F6 F7 F8 F9 F10 F11 F12 F13 F14 F15 F16 F17 P1 P2 P3 P4 M1 M2 M3 M4 M5 M6 M7 M8 (fun_mk (st := s_law) lk c k)⟩
theorem walk {l : PySem.W.OpenLaw} {q : Program} {loose : List Str} {XP : (Str → Option Value) → Heap → Prop} {YP : World → Heap → Prop} {d : DefRec} {K : Params → PySem.W.Frag} (hn : l.most = some 63) (hdf : d.params.defaults = [])
    (hY : ∀ (w : World) (h : Heap), YP w h → (K w.params).In h)
    (F : ∀ (w : World) (mg : Str → Option Value) (fa : Addr) (h : Heap), (K w.params).In h → h.Ns mainGlobals mg → mg d.name = some (.ref fa) →
      ∃ fd : FuncData, (∀ (s : Shared) (u : Value), BindsTo s fd ⟨[u], []⟩ [("_law_script", u)]) ∧ ∀ base : Heap, (K w.params).In base → base.Ns mainGlobals mg → FnOk l.prog w (K w.params) mg base CX0 9 fa fd ["_law_script"] (spLaw (K w.params))) :
    PySem.W.WalkO q loose XP YP l.row.toRowW d [] (fun f vs => PySem.call f vs) :=
  L2.walk_of (n := 63) (k := 9) (x := "_law_script") (CX := fun _ => CX0) (sp := fun w => spLaw (K w.params)) hn (by decide) hdf ⟨rfl, by decide, by decide⟩ hY F (fun _ _ a ns hl _ hS => ⟨a, ns, rfl, hS, hl, fun _ => rfl⟩) fun _ _ _ _ _ z => z
end N

open PySem PySem.W PyProof.Rows
set_option maxRecDepth 100000 in
set_option maxHeartbeats 0 in
open_top hd for PySem.Challenge.rw_stitchsizes_k31_whole_forms


open PySem PySem.W PyProof.Rows
theorem L2.ops_mk {K : PySem.W.Frag} {C : Addr} {f1 f2 f3 f4 f5 f6 : Option Value} (h1 : PySem.W.selfFirst K C = true) (h2 : PySem.W.findIn K (.ref C) "__radd__" = some none) (h3 : PySem.W.findIn K (.ref C) "__rsub__" = some none)
    (h4 : PySem.W.findIn K (.ref C) "__rmul__" = some none) (h5 : PySem.W.findIn K (.type "int") "__add__" = some f1) (h6 : PySem.W.findIn K (.type "int") "__sub__" = some f2) (h7 : PySem.W.findIn K (.type "int") "__mul__" = some f3)
    (h8 : PySem.W.findIn K (.type "int") "__radd__" = some f4) (h9 : PySem.W.findIn K (.type "int") "__rsub__" = some f5) (h10 : PySem.W.findIn K (.type "int") "__rmul__" = some f6) (h11 : PySem.W.findIn K (.ref C) "__ne__" = some (some (.builtin "object.__ne__"))) :
    N.FormOps K C := ⟨h1, h2, h3, h4, ⟨_, h5⟩, ⟨_, h6⟩, ⟨_, h7⟩, ⟨_, h8⟩, ⟨_, h9⟩, ⟨_, h10⟩, h11⟩
set_option maxRecDepth 100000 in
set_option maxHeartbeats 0 in
theorem PySem.Challenge.cw_stitchsizes_k31_whole_forms_holds : PySem.Challenge.rw_stitchsizes_k31_whole_forms.Holds := by
  refine hd ?hc
  k_fill
  refine N.walk (l := PySem.Challenge.rw_stitchsizes_k31_whole_forms) rfl rfl (fun w h Y => PySem.W.kIn_of Y) ?F
  case F =>
    intro w mg fa h KX G hmg
    refine' N.all_mk KX G hmg ?a ?lk ?c ?k ?B ?T ?O ?I ?A ?F1 ?F2 ?F3 ?F4 ?F5 ?F6 ?F7 ?F8 ?F9 ?F10 ?F11 ?F12 ?F13 ?F14 ?F15 ?F16 ?F17 ?P1 ?P2 ?P3 ?P4 ?M1 ?M2 ?M3 ?M4 ?M5 ?M6 ?M7 ?M8
    (case a => k_is); (case lk => k_is); (case c => k_is); (case k => k_is)
    (case B => exact ⟨PySem.W.mg_none_of KX G (by k_is), PySem.W.mg_none_of KX G (by k_is), PySem.W.mg_none_of KX G (by k_is), PySem.W.mg_none_of KX G (by k_is), PySem.W.mg_none_of KX G (by k_is), PySem.W.mg_none_of KX G (by k_is), PySem.W.mg_none_of KX G (by k_is), PySem.W.mg_none_of KX G (by k_is), PySem.W.mg_none_of KX G (by k_is), PySem.W.mg_none_of KX G (by k_is), PySem.W.mg_none_of KX G (by k_is), PySem.W.mg_none_of KX G (by k_is), PySem.W.mg_none_of KX G (by k_is), PySem.W.mg_none_of KX G (by k_is), PySem.W.mg_none_of KX G (by k_is)⟩)
    (case T =>
      refine' ⟨L2.ownC_mk ?t1 ?t2 ?t3 ?t4 ?t5 ?t6 ?t7 ?t8 ?t9 ?t10, ?t11, ?t12, ?t13, PySem.W.mg_of KX G ?t14, ?t15, ?t16, ?t17⟩
      (case t14 => k_is)
      (case t1 => k_is); (case t2 => k_is); (case t3 => k_is); (case t4 => k_is); (case t5 => k_is); (case t6 => k_is); (case t7 => k_is); (case t8 => k_is); (case t9 => k_is); (case t10 => k_is)
      (case t11 => unfold L2.NoAttr; k_is); (case t12 => unfold L2.NoAttr; k_is); (case t13 => unfold L2.NoAttr; k_is); (case t15 => k_is); (case t16 => k_is); (case t17 => k_is))
    (case O =>
      refine' L2.ops_mk ?o1 ?o2 ?o3 ?o4 ?o5 ?o6 ?o7 ?o8 ?o9 ?o10 ?o11
      (case o1 => k_is); (case o2 => k_is); (case o3 => k_is); (case o4 => k_is); (case o5 => k_is); (case o6 => k_is); (case o7 => k_is); (case o8 => k_is); (case o9 => k_is); (case o10 => k_is); (case o11 => k_is))
    (case I =>
      refine' L2.initAt_mk KX G ?i1 ?i2 ?i3 ?i4 ?i5 (L2.funD_mk ?i6 ?i7 ?i8 ?i9 ?i10 ?i11)
      (case i1 => k_is); (case i2 => k_is); (case i3 => k_is); (case i4 => k_is); (case i5 => k_is); (case i6 => k_is); (case i7 => k_is); (case i8 => k_is); (case i9 => k_is)
      (case i10 => exact .cons ⟨_, rfl⟩ (.cons ⟨_, rfl⟩ (.cons ⟨_, rfl⟩ .nil))); (case i11 => simp))
    (case A =>
      refine' L2.methD_mk ?i3 ?i4 ?i5 (L2.funD_mk ?i6 ?i7 ?i8 ?i9 ?i10 ?i11)
      (case i3 => k_is); (case i4 => k_is); (case i5 => k_is); (case i6 => k_is); (case i7 => k_is); (case i8 => k_is); (case i9 => k_is)
      (case i10 => exact .cons ⟨_, rfl⟩ .nil); (case i11 => simp))
    (case F1 => refine' L2.funAt_mk KX G ?a ?l ?c ?k; (case a => k_is); (case l => k_is); (case c => k_is); (case k => k_is))
    (case F2 => refine' L2.funAt_mk KX G ?a ?l ?c ?k; (case a => k_is); (case l => k_is); (case c => k_is); (case k => k_is))
    (case F3 => refine' L2.funAt_mk KX G ?a ?l ?c ?k; (case a => k_is); (case l => k_is); (case c => k_is); (case k => k_is))
    (case F4 => refine' L2.funAt_mk KX G ?a ?l ?c ?k; (case a => k_is); (case l => k_is); (case c => k_is); (case k => k_is))
    (case F5 => refine' L2.funAt_mk KX G ?a ?l ?c ?k; (case a => k_is); (case l => k_is); (case c => k_is); (case k => k_is))
    (case F6 => refine' L2.funAt_mk KX G ?a ?l ?c ?k; (case a => k_is); (case l => k_is); (case c => k_is); (case k => k_is))
    (case F7 => refine' L2.funAt_mk KX G ?a ?l ?c ?k; (case a => k_is); (case l => k_is); (case c => k_is); (case k => k_is))
    (case F8 => refine' L2.funAt_mk KX G ?a ?l ?c ?k; (case a => k_is); (case l => k_is); (case c => k_is); (case k => k_is))
    (case F9 => refine' L2.funAt_mk KX G ?a ?l ?c ?k; (case a => k_is); (case l => k_is); (case c => k_is); (case k => k_is))
    (case F10 => refine' L2.funAt_mk KX G ?a ?l ?c ?k; (case a => k_is); (case l => k_is); (case c => k_is); (case k => k_is))
    (case F11 => refine' L2.funAt_mk KX G ?a ?l ?c ?k; (case a => k_is); (case l => k_is); (case c => k_is); (case k => k_is))
    (case F12 => refine' L2.funAt_mk KX G ?a ?l ?c ?k; (case a => k_is); (case l => k_is); (case c => k_is); (case k => k_is))
    (case F13 => refine' L2.funAt_mk KX G ?a ?l ?c ?k; (case a => k_is); (case l => k_is); (case c => k_is); (case k => k_is))
    (case F14 => refine' L2.funAt_mk KX G ?a ?l ?c ?k; (case a => k_is); (case l => k_is); (case c => k_is); (case k => k_is))
    (case F15 => refine' L2.funAt_mk KX G ?a ?l ?c ?k; (case a => k_is); (case l => k_is); (case c => k_is); (case k => k_is))
    (case F16 => refine' L2.funAt_mk KX G ?a ?l ?c ?k; (case a => k_is); (case l => k_is); (case c => k_is); (case k => k_is))
    (case F17 => refine' L2.funAt_mk KX G ?a ?l ?c ?k; (case a => k_is); (case l => k_is); (case c => k_is); (case k => k_is))
    (case P1 => refine' L2.propAt_mk ?a ?b ?t ?r ?l ?c ?k; (case a => k_is); (case b => k_is); (case t => k_is); (case r => k_is); (case l => k_is); (case c => k_is); (case k => k_is))
    (case P2 => refine' L2.propAt_mk ?a ?b ?t ?r ?l ?c ?k; (case a => k_is); (case b => k_is); (case t => k_is); (case r => k_is); (case l => k_is); (case c => k_is); (case k => k_is))
    (case P3 => refine' L2.propAt_mk ?a ?b ?t ?r ?l ?c ?k; (case a => k_is); (case b => k_is); (case t => k_is); (case r => k_is); (case l => k_is); (case c => k_is); (case k => k_is))
    (case P4 => refine' L2.propAt_mk ?a ?b ?t ?r ?l ?c ?k; (case a => k_is); (case b => k_is); (case t => k_is); (case r => k_is); (case l => k_is); (case c => k_is); (case k => k_is))
    (case M1 => refine' L2.methAt_mk ?a ?i ?l ?c ?k; (case a => k_is); (case i => k_is); (case l => k_is); (case c => k_is); (case k => k_is))
    (case M2 => refine' L2.methAt_mk ?a ?i ?l ?c ?k; (case a => k_is); (case i => k_is); (case l => k_is); (case c => k_is); (case k => k_is))
    (case M3 => refine' L2.methAt_mk ?a ?i ?l ?c ?k; (case a => k_is); (case i => k_is); (case l => k_is); (case c => k_is); (case k => k_is))
    (case M4 => refine' L2.methAt_mk ?a ?i ?l ?c ?k; (case a => k_is); (case i => k_is); (case l => k_is); (case c => k_is); (case k => k_is))
    (case M5 => refine' L2.methAt_mk ?a ?i ?l ?c ?k; (case a => k_is); (case i => k_is); (case l => k_is); (case c => k_is); (case k => k_is))
    (case M6 => refine' L2.methAt_mk ?a ?i ?l ?c ?k; (case a => k_is); (case i => k_is); (case l => k_is); (case c => k_is); (case k => k_is))
    (case M7 => refine' L2.methAt_mk ?a ?i ?l ?c ?k; (case a => k_is); (case i => k_is); (case l => k_is); (case c => k_is); (case k => k_is))
    (case M8 => refine' L2.methAt_mk ?a ?i ?l ?c ?k; (case a => k_is); (case i => k_is); (case l => k_is); (case c => k_is); (case k => k_is))

